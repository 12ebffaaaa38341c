/-
  What this claim needs; no condition of its own. Told short by a script from longer texts.
-/
import Derived.Test.YtohifgjeebhijaaGreatDoorWGf
import Derived.Test.YtohifgjeebhijaaGreatDoorWFi
import Derived.Test.YtohifgjeebhijaaGreatDoorWXw
import Derived.Maps.OwnSet
import Derived.Test.YtohifgjeebhijaaGreatDoorWAl
namespace Go.Proofs.YtohifgjeebhijaaGreatDoor
set_option maxRecDepth 100000
set_option maxHeartbeats 4000000
open Go.RowKit Go.Maps Go.Rq
def wtI (L:List Gr) (K:List Int):List Int:=K.map fun y=>(gr L y).wt
def ctI (cnt:Int→Nat) (K:List Int):List Int:=K.map fun y=>(cnt y:Int)
def lwI (ls:List Lf) (J:List Nat):List Int:=J.map fun i=>(lf ls i).2
def l1I (J:List Nat):List Int:=J.map fun _=>1
def natI (J:List Nat):List Int:=J.map fun i:Nat=>(i:Int)
theorem field2 (i q wt d r me aw:Int) (w:World):(Instr.field 158 (.agg #[.int .i64 i,.int .i64 q,.int .i64 wt,.int .i64 d,.int .i64 r,.int .i64 me,.int .i64 aw]) 2).run Tryz.prog w= .ok (.int .i64 wt) w:=by kernel_rfl
section
variable (fp B:Nat) (L:List Gr) (l:List Int) (m k:Int)
theorem part_any (s cm n:Nat) (lv gv rv:Value) (C:Int→Option Value) (cnt:Int→Nat) (ls:List Lf) (p q a b:Sl) (K:List Int) (J:List Nat) (Post:Value→Int→World→Prop) (w:World) (h:IsF w B fp L l m k) (hs:Blk w s 82 (cellsS fp lv (.map (some cm)) gv rv)) (hl:RowL w lv ls) (hc:Mv w cm n C)
  (HC:Hid (∀y∈K,has L y=true∧(C y).getD (.int .i64 0)= .int .i64 (cnt y:Int))) (ha:RI w a K) (hb:RI w b (natI J)) (hK:K.length≤64) (hJ:J.length≤64) (HJ:Hid (∀i∈J,i<ls.length))
  (HF:Hid (∀(W:World) (c d:Sl),Below w.heap.size w W→RI W c (wtI L K++lwI ls J)→RI W d (ctI cnt K++l1I J)→Calls Tryz.prog 126 #[.agg #[.slice p.a p.n p.c,.slice q.a q.n q.c],.slice c.a c.n c.c,.slice d.a d.n d.c] W fun e w'=>∃v cd,e= .returned (.tuple #[v,.int .i64 cd])∧Post v cd w'∧(∀j,v.ownBlock=some j→w.heap.size≤j)∧Below W.heap.size W w')):
  Calls Tryz.prog 101 #[.pointer (some ⟨s,0,none⟩),.agg #[.slice p.a p.n p.c,.slice q.a q.n q.c],.slice a.a a.n a.c,.slice b.a b.n b.c] w fun e w'=>∃v cd,e= .returned (.tuple #[v,.int .i64 cd])∧Post v cd w'∧(∀j,v.ownBlock=some j→w.heap.size≤j)∧Below w.heap.size w w':=by
 have HS:=Lib.hid hs
 have HM:=Lib.hid hc
 have HA:=Lib.hid ha
 have HBR:=Lib.hid hb
 have HLL:=Lib.hid hl
 have HFo:=Lib.hid h
 obtain⟨al,cl,rfl⟩:=hl.sl
 obtain⟨aa,an,ac⟩:=a
 obtain⟨ba0,bn,bc⟩:=b
 dsimp only at *
 have ea:an=K.length:=ha.len
 have eb:bn=J.length:=by have h:=hb.len;simpa[natI] using h
 subst ea
 subst eb
 have hB:Below w.heap.size w (w.alloc (.cells #[.slice p.a p.n p.c,.slice q.a q.n q.c] 49)):=(Below.refl _ _).alloc (Nat.le_refl _) _
 have P5:=Pair.new w 49 (.slice p.a p.n p.c) (.slice q.a q.n q.c)
 clear h hs hl hc ha hb
 go_enter Tryz.func101,Tryz.ntmps101
 generalize hr:w.heap.size=r5 at P5
 have HR5:=Lib.hid hr
 go_wp2_with fail
 have HP5:=Lib.hid P5
 clear P5 hr
 generalize w.alloc (.cells #[.slice p.a p.n p.c,.slice q.a q.n q.c] 49)=w5 at *
 have H5:=Lib.hid hB
 replace HS:=Lib.hid (HS.out.below hB)
 replace HM:=Lib.hid (HM.out.below hB)
 replace HA:=Lib.hid (HA.out.below hB)
 replace HBR:=Lib.hid (HBR.out.below hB)
 replace HLL:=Lib.hid (HLL.out.below hB)
 replace HFo:=Lib.hid (HFo.out.below hB)
 have HSZ:=Lib.hid HS.out.lt
 have HCM:=Lib.hid HM.out.lt
 have HB5:Hid (Below w5.heap.size w5 w5):=Lib.hid (Below.refl _ _)
 clear hB
 go_loopw [18,10,11] (fun i v u wr=>∃j:Nat,j≤K.length∧i= .int .i64 (j:Int)∧Two wr w5.heap.size v u (wtI L (K.take j)) (ctI cnt (K.take j))∧Below w5.heap.size w5 wr) (fun i _ _ _=>K.length - (intOf i).toNat)
 case atStart=>exact⟨0,Nat.zero_le _,rfl,Two.nil _ _,HB5.out⟩
 case round=>
  obtain⟨j,hj,rfl,T,hB⟩:=hrel
  by_cases hlt:j<K.length
  ·obtain⟨ba,oa,rfl,_,hca⟩:=RI.open (HA.out.below hB) (by intro e;rw[e] at hlt;simp at hlt)
   replace hca:=hca j hlt
   have hym:=getD_mem hlt
   have hcy:=HC.out _ hym
   have HX:Hid (wtI L (K.take (j+1))=wtI L (K.take j)++[(gr L (K.getD j 0)).wt]):=Lib.hid (map_take _ 0 hlt)
   have HY:Hid (ctI cnt (K.take (j+1))=ctI cnt (K.take j)++[(cnt (K.getD j 0):Int)]):=Lib.hid (map_take _ 0 hlt)
   have hxl:(wtI L (K.take j)).length≤64:=by simp[wtI];omega
   have hyl:(ctI cnt (K.take j)).length≤64:=by simp[ctI];omega
   generalize K.getD j 0=y at *
   have HIY:Hid (I64 y):=Lib.hid (by
    have h1:=HFo.out.ok.id hcy.1
    have h2:=HFo.out.ok.mle
    have h3:=HFo.out.ok.k1
    unfold I64;omega)
   have HT:Hid (∀W,Below w5.heap.size w5 W→Calls Tryz.prog 98 #[.pointer (some ⟨s,0,none⟩),.int .i64 y] W fun e w'=>e= .returned (.agg #[.int .i64 y,.int .i64 (gr L y).pa,.int .i64 (gr L y).wt,.int .i64 (dep L y),.int .i64 (topI L y),.int .i64 (gr L y).me,.int .i64 (gr L y).aw])∧Below W.heap.size W w'):=Lib.hid fun W hW=>told_yes fp B L l m k s _ _ gv rv y W (HFo.out.below hW) (HS.out.below hW) HIY.out hcy.1
   have HCY:=Lib.hid hcy.2
   clear hcy hym
   generalize (gr L y).pa=pa at *
   generalize (gr L y).wt=wt at *
   generalize (gr L y).me=me at *
   generalize (gr L y).aw=aw at *
   generalize dep L y=d at *
   generalize topI L y=tp at *
   generalize (cnt y:Int)=cy at *
   generalize wtI L (K.take j)=xs at *
   generalize ctI cnt (K.take j)=ys at *
   go_wp2_with fail
   clear hca
   have X1:=cS2 (HS.out.below hB)
   have X2:=HM.out.below hB
   have hb:Below wr.heap.size wr wr.drew:=(Same.drew wr).below _
   replace X1:=(hb.cell (p:=⟨s,2,none⟩) (Nat.lt_of_lt_of_le HSZ.out hB.size)).trans X1
   replace X2:=X2.below hb
   replace T:=T.below hb
   replace hB:=hB.trans (hb.mono hB.size)
   clear hb
   refine Rd.regionT (fun X=>X.cell? ⟨s,2,none⟩=some (.map (some cm))∧Mv X cm n C) [0,1,2,4,7,8,9,10,11,12,13,16,17] (.one 0 (.one 1 (.one 2 (.one 7 (.one 8 (.one 9 (.one 10 (.one 11 (.one 12 (.one 13 (.two 3 (.one 4 (.two 5 (.two 6 (.one 14 (.one 15 (.one 16 (.one 17 .done)))) 14 (.one 6 (.one 15 (.one 16 (.one 17 .done))))) 14 (.one 5 (.one 6 (.one 15 (.one 16 (.one 17 .done))))))) 14 (.one 3 (.one 4 (.one 5 (.one 6 (.one 15 (.one 16 (.one 17 .done)))))))))))))))))) _ (by kernel_rfl) (by kernel_rfl) (by kernel_rfl) ⟨X1,X2⟩ ?_ (fun _ _ h=>h)
   generalize wr.drew=w20 at *
   refine Rd.tr_float (u10) (by simp only[gA,gC];rfl) rfl (by rfl) (fun X _=>by go_simp) ?_
   simp only[Act.put,sA,sB,sC]
   refine Rd.tr_float (.pointer (some ⟨s,0,none⟩)) (by simp only[gA,gB,gC];rfl) rfl (by rfl) (fun X _=>by go_simp) ?_
   simp only[Act.put,sA,sB,sC]
   refine Rd.tr_float (.int .i64 y) (by simp only[gA,gB,gC];rfl) rfl (by rfl) (fun X _=>by go_simp) ?_
   simp only[Act.put,sA,sB,sC]
   refine Rd.tr_float (u11) (by simp only[gA,gB,gC];rfl) rfl (by rfl) (fun X _=>by go_simp) ?_
   simp only[Act.put,sA,sB,sC]
   refine Rd.tr_float (.pointer (some ⟨s,0,none⟩)) (by simp only[gA,gB,gC];rfl) rfl (by rfl) (fun X _=>by go_simp) ?_
   simp only[Act.put,sA,sB,sC]
   refine Rd.tr_float (.pointer (some ⟨s,0,none⟩)) (by simp only[gA,gB,gC];rfl) rfl (by rfl) (fun X _=>by go_simp) ?_
   simp only[Act.put,sA,sB,sC]
   refine Rd.tr_float (.pointer (some ⟨s,2,none⟩)) (by simp only[gA,gB,gC];rfl) rfl (by rfl) (fun X _=>by go_simp) ?_
   simp only[Act.put,sA,sB,sC]
   refine Rd.tr_float (.map (some cm)) (by simp only[gA,gB,gC];rfl) rfl (by rfl) (fun X hX=>by have hx1:=hX.1;clear hX;go_simp) ?_
   simp only[Act.put,sA,sB,sC]
   refine Rd.tr_float (.int .i64 y) (by simp only[gA,gB,gC];rfl) rfl (by rfl) (fun X _=>by go_simp) ?_
   simp only[Act.put,sA,sB,sC]
   refine Rd.tr_float (.int .i64 cy) (by simp only[gA,gB,gC];rfl) rfl (by rfl) (fun X hX=>by have hx1:=hX.2.look Tryz.underlying80 (zeroI X) HIY.out;rw[HCY.out] at hx1;clear hX;go_simp) ?_
   simp only[Act.put,sA,sB,sC]
   refine Rd.tr_two (by simp only[gA,gB,gC];rfl) (by rfl) (by simp only[gA,gB,gC];rfl) (by rfl) (fun K hK=>?_) (fun K hK=>?_)
   ·skip
    go_simp
    refine(HT.out _ hB).mono ?_
    rintro e w21 ⟨rfl,hb⟩
    replace X1:=(hb.cell (p:=⟨s,2,none⟩) (Nat.lt_of_lt_of_le HSZ.out hB.size)).trans X1
    replace X2:=X2.below hb
    replace T:=T.below hb
    replace hB:=hB.trans (hb.mono hB.size)
    clear hb
    refine hK _ _ ⟨X1,X2⟩ ?_
    clear hK K
    refine Rd.tr_float (.int .i64 wt) (by simp only[gA,gB,gC];rfl) rfl (by rfl) (fun X _=>by have hx1:=field2 y pa wt d tp me aw X;go_simp) ?_
    simp only[Act.put,sA,sB,sC]
    refine Rd.tr_two (by simp only[gA,gB,gC];rfl) (by rfl) (by simp only[gA,gB,gC];rfl) (by rfl) (fun K hK=>?_) (fun K hK=>?_)
    ·skip
     go_simp
     have A1:=OneAt.new w21 wt
     have hb:Below w21.heap.size w21 (w21.alloc (.cells #[.int .i64 wt] 3)):=(Below.refl _ _).alloc (Nat.le_refl _) _
     generalize w21.alloc (.cells #[.int .i64 wt] 3)=w22 at *
     replace X1:=(hb.cell (p:=⟨s,2,none⟩) (Nat.lt_of_lt_of_le HSZ.out hB.size)).trans X1
     replace X2:=X2.below hb
     replace T:=T.below hb
     replace hB:=hB.trans (hb.mono hB.size)
     clear hb
     refine hK _ _ ⟨X1,X2⟩ ?_
     clear hK K
     refine Rd.tr_two (by simp only[gA,gB,gC];rfl) (by rfl) (by simp only[gA,gB,gC];rfl) (by rfl) (fun K hK=>?_) (fun K hK=>?_)
     ·skip
      refine wp_push _ _ rfl w5.heap.size u10 xs w21.heap.size wt rfl rfl A1 hB.size T.l (by omega) (fun va w23 h3 h4 h5=>?_)
      have hb:=grown_below T.l hB.size h4
      replace T:=T.pushL h3 h4 h5
      replace X1:=(hb.cell (p:=⟨s,2,none⟩) HSZ.out).trans X1
      replace X2:=X2.same (hb.block cm HCM.out)
      replace hB:=hB.trans hb
      clear hb h3 h4 h5 A1
      refine hK _ _ ⟨X1,X2⟩ ?_
      clear hK K
      refine Rd.tr_move (by simp only[gA,gB,gC];rfl) rfl (by rfl) (fun K hK=>?_)
      go_simp
      have A2:=OneAt.new w23 cy
      have N14: ∀j,va.ownBlock=some j→some w23.heap.size≠some j:=fun j e e2=>by cases e2;have:=(T.l.own e).2;omega
      have hb:Below w23.heap.size w23 (w23.alloc (.cells #[.int .i64 cy] 3)):=(Below.refl _ _).alloc (Nat.le_refl _) _
      generalize w23.alloc (.cells #[.int .i64 cy] 3)=w24 at *
      replace X1:=(hb.cell (p:=⟨s,2,none⟩) (Nat.lt_of_lt_of_le HSZ.out hB.size)).trans X1
      replace X2:=X2.below hb
      replace T:=T.below hb
      replace hB:=hB.trans (hb.mono hB.size)
      clear hb
      refine hK _ _ ⟨X1,X2⟩ ?_
      clear hK K
      refine Rd.tr_move (by simp only[gA,gB,gC];rfl) rfl (by rfl) (fun K hK=>?_)
      refine wp_push _ _ rfl w5.heap.size u11 ys w23.heap.size cy rfl rfl A2 hB.size T.r (by omega) (fun vb w25 h3 h4 h5=>?_)
      have hb:=grown_below T.r hB.size h4
      replace T:=T.pushR h3 h4 h5
      replace X1:=(hb.cell (p:=⟨s,2,none⟩) HSZ.out).trans X1
      replace X2:=X2.same (hb.block cm HCM.out)
      replace hB:=hB.trans hb
      clear hb h3 h4 h5 A2
      refine hK _ _ ⟨X1,X2⟩ ?_
      clear hK K
      refine Rd.tr_float (va) (by simp only[gA,gB,gC];rfl) rfl (by rfl) (fun X _=>by go_simp) ?_
      simp only[Act.put,sA,sB,sC]
      refine Rd.tr_float (vb) (by simp only[gA,gB,gC];rfl) rfl (by rfl) (fun X _=>by go_simp) ?_
      simp only[Act.put,sA,sB,sC]
      refine Rd.tr_end ?_
      go_wp2_with fail
      go_round
      case rel=>exact⟨j+1,by omega,by go_num,by rw[HX.out,HY.out];exact T,hB⟩
      case measure=>simp[intOf];omega
     ·skip
      go_simp
      have A2:=OneAt.new w22 cy
      have N14: ∀j,u10.ownBlock=some j→some w22.heap.size≠some j:=fun j e e2=>by cases e2;have:=(T.l.own e).2;omega
      have hb:Below w22.heap.size w22 (w22.alloc (.cells #[.int .i64 cy] 3)):=(Below.refl _ _).alloc (Nat.le_refl _) _
      generalize w22.alloc (.cells #[.int .i64 cy] 3)=w26 at *
      replace X1:=(hb.cell (p:=⟨s,2,none⟩) (Nat.lt_of_lt_of_le HSZ.out hB.size)).trans X1
      replace X2:=X2.below hb
      replace T:=T.below hb
      replace A1:=A1.below hb
      replace hB:=hB.trans (hb.mono hB.size)
      clear hb
      refine hK _ _ ⟨X1,X2⟩ ?_
      clear hK K
      refine Rd.tr_move (by simp only[gA,gB,gC];rfl) rfl (by rfl) (fun K hK=>?_)
      refine wp_push _ _ rfl w5.heap.size u10 xs w21.heap.size wt rfl rfl A1 hB.size T.l (by omega) (fun va w27 h3 h4 h5=>?_)
      replace A2:=A2.grown h4 (fun e=>N14 _ e.symm rfl)
      have hb:=grown_below T.l hB.size h4
      replace T:=T.pushL h3 h4 h5
      replace X1:=(hb.cell (p:=⟨s,2,none⟩) HSZ.out).trans X1
      replace X2:=X2.same (hb.block cm HCM.out)
      replace hB:=hB.trans hb
      clear hb h3 h4 h5 A1
      refine hK _ _ ⟨X1,X2⟩ ?_
      clear hK K
      refine Rd.tr_move (by simp only[gA,gB,gC];rfl) rfl (by rfl) (fun K hK=>?_)
      refine wp_push _ _ rfl w5.heap.size u11 ys w22.heap.size cy rfl rfl A2 hB.size T.r (by omega) (fun vb w28 h3 h4 h5=>?_)
      have hb:=grown_below T.r hB.size h4
      replace T:=T.pushR h3 h4 h5
      replace X1:=(hb.cell (p:=⟨s,2,none⟩) HSZ.out).trans X1
      replace X2:=X2.same (hb.block cm HCM.out)
      replace hB:=hB.trans hb
      clear hb h3 h4 h5 A2
      refine hK _ _ ⟨X1,X2⟩ ?_
      clear hK K
      refine Rd.tr_float (va) (by simp only[gA,gB,gC];rfl) rfl (by rfl) (fun X _=>by go_simp) ?_
      simp only[Act.put,sA,sB,sC]
      refine Rd.tr_float (vb) (by simp only[gA,gB,gC];rfl) rfl (by rfl) (fun X _=>by go_simp) ?_
      simp only[Act.put,sA,sB,sC]
      refine Rd.tr_end ?_
      go_wp2_with fail
      go_round
      case rel=>exact⟨j+1,by omega,by go_num,by rw[HX.out,HY.out];exact T,hB⟩
      case measure=>simp[intOf];omega
    ·skip
     go_simp
     have A2:=OneAt.new w21 cy
     have N14: ∀j,u10.ownBlock=some j→some w21.heap.size≠some j:=fun j e e2=>by cases e2;have:=(T.l.own e).2;omega
     have hb:Below w21.heap.size w21 (w21.alloc (.cells #[.int .i64 cy] 3)):=(Below.refl _ _).alloc (Nat.le_refl _) _
     generalize w21.alloc (.cells #[.int .i64 cy] 3)=w29 at *
     replace X1:=(hb.cell (p:=⟨s,2,none⟩) (Nat.lt_of_lt_of_le HSZ.out hB.size)).trans X1
     replace X2:=X2.below hb
     replace T:=T.below hb
     replace hB:=hB.trans (hb.mono hB.size)
     clear hb
     refine hK _ _ ⟨X1,X2⟩ ?_
     clear hK K
     refine Rd.tr_move (by simp only[gA,gB,gC];rfl) rfl (by rfl) (fun K hK=>?_)
     go_simp
     have A1:=OneAt.new w29 wt
     have hb:Below w29.heap.size w29 (w29.alloc (.cells #[.int .i64 wt] 3)):=(Below.refl _ _).alloc (Nat.le_refl _) _
     generalize w29.alloc (.cells #[.int .i64 wt] 3)=w30 at *
     replace X1:=(hb.cell (p:=⟨s,2,none⟩) (Nat.lt_of_lt_of_le HSZ.out hB.size)).trans X1
     replace X2:=X2.below hb
     replace T:=T.below hb
     replace A2:=A2.below hb
     replace hB:=hB.trans (hb.mono hB.size)
     clear hb
     refine hK _ _ ⟨X1,X2⟩ ?_
     clear hK K
     refine Rd.tr_move (by simp only[gA,gB,gC];rfl) rfl (by rfl) (fun K hK=>?_)
     refine wp_push _ _ rfl w5.heap.size u10 xs w29.heap.size wt rfl rfl A1 hB.size T.l (by omega) (fun va w31 h3 h4 h5=>?_)
     replace A2:=A2.grown h4 (fun e=>N14 _ e.symm rfl)
     have hb:=grown_below T.l hB.size h4
     replace T:=T.pushL h3 h4 h5
     replace X1:=(hb.cell (p:=⟨s,2,none⟩) HSZ.out).trans X1
     replace X2:=X2.same (hb.block cm HCM.out)
     replace hB:=hB.trans hb
     clear hb h3 h4 h5 A1
     refine hK _ _ ⟨X1,X2⟩ ?_
     clear hK K
     refine Rd.tr_move (by simp only[gA,gB,gC];rfl) rfl (by rfl) (fun K hK=>?_)
     refine wp_push _ _ rfl w5.heap.size u11 ys w21.heap.size cy rfl rfl A2 hB.size T.r (by omega) (fun vb w32 h3 h4 h5=>?_)
     have hb:=grown_below T.r hB.size h4
     replace T:=T.pushR h3 h4 h5
     replace X1:=(hb.cell (p:=⟨s,2,none⟩) HSZ.out).trans X1
     replace X2:=X2.same (hb.block cm HCM.out)
     replace hB:=hB.trans hb
     clear hb h3 h4 h5 A2
     refine hK _ _ ⟨X1,X2⟩ ?_
     clear hK K
     refine Rd.tr_float (va) (by simp only[gA,gB,gC];rfl) rfl (by rfl) (fun X _=>by go_simp) ?_
     simp only[Act.put,sA,sB,sC]
     refine Rd.tr_float (vb) (by simp only[gA,gB,gC];rfl) rfl (by rfl) (fun X _=>by go_simp) ?_
     simp only[Act.put,sA,sB,sC]
     refine Rd.tr_end ?_
     go_wp2_with fail
     go_round
     case rel=>exact⟨j+1,by omega,by go_num,by rw[HX.out,HY.out];exact T,hB⟩
     case measure=>simp[intOf];omega
   ·skip
    go_simp
    have A2:=OneAt.new w20 cy
    have N14: ∀j,u10.ownBlock=some j→some w20.heap.size≠some j:=fun j e e2=>by cases e2;have:=(T.l.own e).2;omega
    have hb:Below w20.heap.size w20 (w20.alloc (.cells #[.int .i64 cy] 3)):=(Below.refl _ _).alloc (Nat.le_refl _) _
    generalize w20.alloc (.cells #[.int .i64 cy] 3)=w33 at *
    replace X1:=(hb.cell (p:=⟨s,2,none⟩) (Nat.lt_of_lt_of_le HSZ.out hB.size)).trans X1
    replace X2:=X2.below hb
    replace T:=T.below hb
    replace hB:=hB.trans (hb.mono hB.size)
    clear hb
    refine hK _ _ ⟨X1,X2⟩ ?_
    clear hK K
    refine Rd.tr_move (by simp only[gA,gB,gC];rfl) rfl (by rfl) (fun K hK=>?_)
    go_simp
    refine(HT.out _ hB).mono ?_
    rintro e w34 ⟨rfl,hb⟩
    replace X1:=(hb.cell (p:=⟨s,2,none⟩) (Nat.lt_of_lt_of_le HSZ.out hB.size)).trans X1
    replace X2:=X2.below hb
    replace T:=T.below hb
    replace A2:=A2.below hb
    replace hB:=hB.trans (hb.mono hB.size)
    clear hb
    refine hK _ _ ⟨X1,X2⟩ ?_
    clear hK K
    refine Rd.tr_float (.int .i64 wt) (by simp only[gA,gB,gC];rfl) rfl (by rfl) (fun X _=>by have hx1:=field2 y pa wt d tp me aw X;go_simp) ?_
    simp only[Act.put,sA,sB,sC]
    refine Rd.tr_move (by simp only[gA,gB,gC];rfl) rfl (by rfl) (fun K hK=>?_)
    go_simp
    have A1:=OneAt.new w34 wt
    have hb:Below w34.heap.size w34 (w34.alloc (.cells #[.int .i64 wt] 3)):=(Below.refl _ _).alloc (Nat.le_refl _) _
    generalize w34.alloc (.cells #[.int .i64 wt] 3)=w35 at *
    replace X1:=(hb.cell (p:=⟨s,2,none⟩) (Nat.lt_of_lt_of_le HSZ.out hB.size)).trans X1
    replace X2:=X2.below hb
    replace T:=T.below hb
    replace A2:=A2.below hb
    replace hB:=hB.trans (hb.mono hB.size)
    clear hb
    refine hK _ _ ⟨X1,X2⟩ ?_
    clear hK K
    refine Rd.tr_move (by simp only[gA,gB,gC];rfl) rfl (by rfl) (fun K hK=>?_)
    refine wp_push _ _ rfl w5.heap.size u10 xs w34.heap.size wt rfl rfl A1 hB.size T.l (by omega) (fun va w36 h3 h4 h5=>?_)
    replace A2:=A2.grown h4 (fun e=>N14 _ e.symm rfl)
    have hb:=grown_below T.l hB.size h4
    replace T:=T.pushL h3 h4 h5
    replace X1:=(hb.cell (p:=⟨s,2,none⟩) HSZ.out).trans X1
    replace X2:=X2.same (hb.block cm HCM.out)
    replace hB:=hB.trans hb
    clear hb h3 h4 h5 A1
    refine hK _ _ ⟨X1,X2⟩ ?_
    clear hK K
    refine Rd.tr_move (by simp only[gA,gB,gC];rfl) rfl (by rfl) (fun K hK=>?_)
    refine wp_push _ _ rfl w5.heap.size u11 ys w20.heap.size cy rfl rfl A2 hB.size T.r (by omega) (fun vb w37 h3 h4 h5=>?_)
    have hb:=grown_below T.r hB.size h4
    replace T:=T.pushR h3 h4 h5
    replace X1:=(hb.cell (p:=⟨s,2,none⟩) HSZ.out).trans X1
    replace X2:=X2.same (hb.block cm HCM.out)
    replace hB:=hB.trans hb
    clear hb h3 h4 h5 A2
    refine hK _ _ ⟨X1,X2⟩ ?_
    clear hK K
    refine Rd.tr_float (va) (by simp only[gA,gB,gC];rfl) rfl (by rfl) (fun X _=>by go_simp) ?_
    simp only[Act.put,sA,sB,sC]
    refine Rd.tr_float (vb) (by simp only[gA,gB,gC];rfl) rfl (by rfl) (fun X _=>by go_simp) ?_
    simp only[Act.put,sA,sB,sC]
    refine Rd.tr_end ?_
    go_wp2_with fail
    go_round
    case rel=>exact⟨j+1,by omega,by go_num,by rw[HX.out,HY.out];exact T,hB⟩
    case measure=>simp[intOf];omega
  ·have ej:j=K.length:=by omega
   subst ej
   rw[List.take_length] at T
   go_wp2_with fail
   have HT0:=Lib.hid T
   have HB0:=Lib.hid hB
   clear T hB
   have hx0:(wtI L K).length≤64:=by simp[wtI];omega
   have hy0:(ctI cnt K).length≤64:=by simp[ctI];omega
   generalize wtI L K=X0 at *
   generalize ctI cnt K=Y0 at *
   go_loopw [41,10,11] (fun i v u wr=>∃j2:Nat,j2≤J.length∧i= .int .i64 (j2:Int)∧Two wr w5.heap.size v u (X0++lwI ls (J.take j2)) (Y0++l1I (J.take j2))∧Below w5.heap.size w5 wr) (fun i _ _ _=>J.length - (intOf i).toNat)
   case atStart=>exact⟨0,by omega,rfl,by simpa[lwI,l1I] using HT0.out,HB0.out⟩
   case round=>
    obtain⟨j2,hj2,rfl,T,hB⟩:=hrel
    clear HT0 HB0
    by_cases hlt2:j2<J.length
    ·have hnl:j2<(natI J).length:=by simp[natI];omega
     obtain⟨bb,ob,rfl,_,hcb⟩:=RI.open (p:=⟨ba0,J.length,bc⟩) (l:=natI J) (HBR.out.below hB) (by intro e;rw[e] at hnl;simp at hnl)
     replace hcb:=hcb j2 hnl
     have hjm:J.getD j2 0∈J:=by rw[List.getD_eq_getElem?_getD,List.getElem?_eq_getElem hlt2];exact List.getElem_mem hlt2
     have hnj:(natI J).getD j2 0=((J.getD j2 0:Nat):Int):=by simp[natI,List.getD_eq_getElem?_getD,List.getElem?_eq_getElem hlt2]
     rw[hnj] at hcb
     have hil:=HJ.out _ hjm
     have HX:Hid (lwI ls (J.take (j2+1))=lwI ls (J.take j2)++[(lf ls (J.getD j2 0)).2]):=Lib.hid (map_take _ 0 hlt2)
     have HY:Hid (l1I (J.take (j2+1))=l1I (J.take j2)++[1]):=Lib.hid (map_take (fun _=>(1:Int)) 0 hlt2)
     have hxl:(X0++lwI ls (J.take j2)).length≤128:=by simp[lwI];omega
     have hyl:(Y0++l1I (J.take j2)).length≤128:=by simp[l1I];omega
     obtain⟨bl,off,rfl,_,hx1,_,_⟩:=(HLL.out.below hB).at hil
     have h1c:=cS1 (HS.out.below hB)
     clear hjm hnj hnl
     generalize J.getD j2 0=i at *
     generalize (lf ls i).2=wt at *
     generalize lwI ls (J.take j2)=xs at *
     generalize l1I (J.take j2)=ys at *
     have T1:True:=trivial
     go_wp2_with (first
      | (at_builtin;clear T1;refine wpList_push rfl _ _ rfl w5.heap.size u10 _ wr.heap.size wt rfl rfl (OneAt.new wr wt) (Below.allocS hB _).size (T.l.alloc _) (by omega) ?_;intro va w7 h3 h4 h5;have T7:=(T.below ((Below.refl _ _).alloc (Nat.le_refl _) (.cells #[.int .i64 wt] 3))).pushL h3 h4 h5;have hB7:=(Below.allocS hB (.cells #[.int .i64 wt] 3)).trans (grown_below (T.l.alloc (.cells #[.int .i64 wt] 3)) (Below.allocS hB _).size h4);clear h3 h4 h5)
      | (at_builtin;refine wpList_push rfl _ _ rfl w5.heap.size u11 _ w7.heap.size 1 rfl rfl (OneAt.new w7 1) (Below.allocS hB7 _).size (T7.r.alloc _) (by omega) ?_;intro vb w8 h3 h4 h5;have T8:=(T7.below ((Below.refl _ _).alloc (Nat.le_refl _) (.cells #[.int .i64 1] 3))).pushR h3 h4 h5;have hB8:=(Below.allocS hB7 (.cells #[.int .i64 1] 3)).trans (grown_below (T7.r.alloc (.cells #[.int .i64 1] 3)) (Below.allocS hB7 _).size h4);clear h3 h4 h5))
     go_round
     case rel=>exact⟨j2+1,by omega,by go_num,by rw[HX.out,HY.out,←List.append_assoc,←List.append_assoc];exact T8,hB8⟩
     case measure=>simp[intOf];omega
    ·have ej:j2=J.length:=by omega
     subst ej
     rw[List.take_length] at T
     obtain⟨pa,rfl,hpa⟩:=T.l.rowI.sl
     obtain⟨pb,rfl,hpb⟩:=T.r.rowI.sl
     have HFI:=Lib.hid (HF.out wr pa pb (H5.out.trans (hB.mono H5.out.size)) hpa hpb)
     have HBB:=Lib.hid (H5.out.trans (hB.mono H5.out.size))
     have P5:=HP5.out.below hB
     have c0:=P5.c0
     have c1:=P5.c1
     clear T hpa hpb P5 hB
     go_wp2_with fail
     clear c0 c1
     refine HFI.out.mono ?_
     rintro e w9 ⟨v,cd,rfl,hp,hf,hb⟩
     have HPP:=Lib.hid hp
     have HFF:=Lib.hid hf
     clear hp hf
     go_wp2_with fail
     go_ret2
     rw[←HR5.out]
     exact⟨v,cd,rfl,HPP.out,HFF.out,HBB.out.trans (hb.mono HBB.out.size)⟩
end
end Go.Proofs.YtohifgjeebhijaaGreatDoor
namespace Go.Proofs.YtohifgjeebhijaaGreatDoor
open Go.RowKit Go.Maps Go.Rq
def Apart (w:World) (gm rb:Nat):Prop:=(∃es clock,w.heap[gm]? =some (.map es clock))∧∃cur,w.heap[rb]? =some (.cells cur 49 (0,0))∧∀u∈cur.toList,isSl u
section
variable {w w':World} {gm rb:Nat} {u:Value}
theorem Lim.only {q:IntKind} {l:List Nat} (h:Lim q w u l) (ha:Apart w gm rb) (ho:Only gm rb w w'):Lim q w' u l:=by
 obtain⟨ad,cap,e1,h1,h2⟩:=h
 refine⟨ad,cap,e1,h1,fun hne=>?_⟩
 obtain⟨b,off,rfl,hb,hc⟩:=h2 hne
 obtain⟨⟨es,cl,hg⟩,cur,hr,hall⟩:=ha
 have h3:=hc 0 (List.length_pos_iff.2 hne)
 have n1:b≠gm:=by
  rintro rfl
  simp only[World.cell?,hg] at h3
  cases h3
 have n2:b≠rb:=by
  rintro rfl
  simp only[World.cell?,hr,Nat.add_zero] at h3
  obtain⟨h4,h5⟩:=Array.getElem?_eq_some_iff.1 h3
  obtain⟨_,_,_,h6⟩:=hall _ (Array.getElem_mem_toList h4)
  rw[h5] at h6
  cases h6
 exact⟨b,off,rfl,Nat.lt_of_lt_of_le hb ho.size,fun j hj=>(World.cell?_of_block (w:=w) (a:=⟨b,off+j,none⟩) (ho.block b hb n1 n2)).trans (hc j hj)⟩
theorem RQ.only {p q:Sl} {r:Rat} (h:RQ w p q r) (ha:Apart w gm rb) (ho:Only gm rb w w'):RQ w' p q r:=⟨h.1,h.2.1.only ha ho,h.2.2.only ha ho⟩
theorem RowX.only {v:Value} {rs:List Rat} (h:RowX RQ w v rs) (ha:Apart w gm rb) (ho:Only gm rb w w') (hne: ∀j,v.ownBlock=some j→j≠gm∧j≠rb):RowX RQ w' v rs:=by
 obtain⟨ad,cap,e,h2⟩:=h
 refine⟨ad,cap,e,fun hn=>?_⟩
 obtain⟨B,rfl,hB,hc⟩:=h2 hn
 obtain⟨n1,n2⟩:=hne B (by rw[e];rfl)
 refine⟨B,rfl,Nat.lt_of_lt_of_le hB ho.size,fun j hj=>?_⟩
 obtain⟨p,q,h1,h2,h3⟩:=hc j hj
 have hk:=ho.block B hB n1 n2
 exact⟨p,q,(World.cell?_of_block (w:=w) (a:=⟨B,j*2,none⟩) hk).trans h1,(World.cell?_of_block (w:=w) (a:=⟨B,j*2+1,none⟩) hk).trans h2,h3.only ha ho⟩
theorem Mv.only {cm n:Nat} {C:Int→Option Value} (h:Mv w cm n C) (ho:Only gm rb w w') (h1:cm≠gm) (h2:cm≠rb):Mv w' cm n C:=h.same (ho.block cm h.lt h1 h2)
theorem Blk.only {b t:Nat} {cs:Array Value} (h:Blk w b t cs) (ho:Only gm rb w w') (h1:b≠gm) (h2:b≠rb):Blk w' b t cs:=(ho.block b h.lt h1 h2).trans h
theorem Only.of_grown (h:w.grownBy w' (some gm)):Only gm rb w w':=⟨h.os,h.tape,h.output,h.size,fun k hk h1 _=>h.block k hk (fun e=>h1 (by cases e;rfl))⟩
end
def RtM (w:World) (gm N:Nat) (f:Int→Rat) (S:Int→Bool):Prop:=
 ∃V:Int→Option Value,Mv w gm N V∧∀x,(S x=false→V x=none)∧(S x=true→∃p q:Sl,V x=some (.agg #[.slice p.a p.n p.c,.slice q.a q.n q.c])∧RQ w p q (f x))
def RtR (w:World) (rb n:Nat) (f:Nat→Rat) (T:Nat→Bool):Prop:=
 ∃cur:Array Value,w.heap[rb]? =some (.cells cur 49 (0,0))∧cur.size=n*2∧(∀u∈cur.toList,isSl u)∧∀i,i<n→T i=true→∃p q:Sl,cur[i*2]? =some (.slice p.a p.n p.c)∧cur[i*2+1]? =some (.slice q.a q.n q.c)∧RQ w p q (f i)
section
variable {w w':World} {gm rb N n:Nat} {f:Int→Rat} {r:Nat→Rat} {S:Int→Bool} {T:Nat→Bool}
theorem apart_of (hm:RtM w gm N f S) (hr:RtR w rb n r T):Apart w gm rb:=by
 obtain⟨V,h1,_⟩:=hm
 obtain⟨cur,h2,_,h3,_⟩:=hr
 exact⟨h1.isMap,cur,h2,h3⟩
theorem RtM.lt (h:RtM w gm N f S):gm<w.heap.size:=by
 obtain⟨V,h1,_⟩:=h
 exact h1.lt
theorem RtR.lt (h:RtR w rb n r T):rb<w.heap.size:=by
 obtain⟨cur,h2,_⟩:=h
 exact(Array.getElem?_eq_some_iff.1 h2).1
theorem RtM.below (h:RtM w gm N f S) (hb:Below w.heap.size w w'):RtM w' gm N f S:=by
 obtain⟨V,h1,h2⟩:=h
 refine⟨V,h1.below hb,fun x=>⟨(h2 x).1,fun hs=>?_⟩⟩
 obtain⟨p,q,e,hq⟩:=(h2 x).2 hs
 exact⟨p,q,e,hq.below hb⟩
theorem RtR.below (h:RtR w rb n r T) (hb:Below w.heap.size w w'):RtR w' rb n r T:=by
 have hlt:=h.lt
 obtain⟨cur,h1,h2,h3,h4⟩:=h
 refine⟨cur,(hb.block rb hlt).trans h1,h2,h3,fun i hi ht=>?_⟩
 obtain⟨p,q,e1,e2,hq⟩:=h4 i hi ht
 exact⟨p,q,e1,e2,hq.below hb⟩
theorem RtM.congr {S':Int→Bool} (h:RtM w gm N f S) (e: ∀x,S x=S' x):RtM w gm N f S':=by
 have:S=S':=funext e
 rw[←this];exact h
theorem RtR.congr {T':Nat→Bool} (h:RtR w rb n r T) (e: ∀i,i<n→T i=T' i):RtR w rb n r T':=by
 obtain⟨cur,h1,h2,h3,h4⟩:=h
 exact⟨cur,h1,h2,h3,fun i hi ht=>h4 i hi (by rw[e i hi];exact ht)⟩
theorem RtM.put {G:Int→Option Value} {p q:Sl} {x:Int} (h:RtM w gm N f S) (hr:RtR w rb n r T) (hq:RQ w p q (f x)) (hG: ∃V,(Mv w gm N V∧∀x,(S x=false→V x=none)∧(S x=true→∃p q:Sl,V x=some (.agg #[.slice p.a p.n p.c,.slice q.a q.n q.c])∧RQ w p q (f x)))∧G=fun y=>if y=x then some (.agg #[.slice p.a p.n p.c,.slice q.a q.n q.c]) else V y)
  (hm:Mv w' gm (N+1) G) (hg:w.grownBy w' (some gm)):RtM w' gm (N+1) f (fun y=>S y||decide (y=x)):=by
 have ho:Only gm rb w w':=Only.of_grown hg
 have ha:=apart_of h hr
 obtain⟨V,⟨_,h2⟩,rfl⟩:=hG
 refine⟨_,hm,fun y=>?_⟩
 by_cases e:y=x
 ·subst e
  simp only[decide_true,Bool.or_true,if_true]
  exact⟨(fun h=>by cases h),fun _=>⟨p,q,rfl,hq.only ha ho⟩⟩
 ·simp only[e,decide_false,Bool.or_false,if_false]
  refine⟨(h2 y).1,fun hs=>?_⟩
  obtain⟨p',q',e1,e2⟩:=(h2 y).2 hs
  exact⟨p',q',e1,e2.only ha ho⟩
theorem RtR.only (hm:RtM w gm N f S) (h:RtR w rb n r T) (hg:w.grownBy w' (some gm)):RtR w' rb n r T:=by
 have ho:Only gm rb w w':=Only.of_grown hg
 have ha:=apart_of hm h
 have hlt:=h.lt
 obtain⟨cur,h1,h2,h3,h4⟩:=h
 refine⟨cur,(hg.block rb hlt (by
  intro e;cases e
  obtain⟨V,h5,_⟩:=hm
  obtain⟨es,cl,h6⟩:=h5.isMap
  rw[h1] at h6;cases h6)).trans h1,h2,h3,fun i hi ht=>?_⟩
 obtain⟨p,q,e1,e2,hq⟩:=h4 i hi ht
 exact⟨p,q,e1,e2,hq.only ha ho⟩
theorem RtR.fz (h:RtR w rb n r T) (i:Nat):w.frozen? ⟨rb,i,none⟩=false:=by
 obtain⟨cur,h1,_⟩:=h
 exact frozen_of_row w rb i _ 49 h1
theorem RtR.cell (h:RtR w rb n r T) {i:Nat} (hi:i<n*2): ∃a m c,w.cell? ⟨rb,i,none⟩=some (.slice a m c):=by
 obtain⟨cur,h1,h2,h3,_⟩:=h
 have hi2:i<cur.size:=by omega
 obtain⟨a,m,c,e⟩:=h3 _ (Array.getElem_mem_toList hi2)
 refine⟨a,m,c,?_⟩
 rw[cell_of_row w rb i _ 49 (0,0) h1,Array.getElem?_eq_getElem hi2,e]
theorem RtR.put (hm:RtM w gm N f S) (h:RtR w rb n r T) {p q:Sl} {i:Nat} (hi:i<n) (hq:RQ w p q (r i)):
  RtR ((w.setCell ⟨rb,i*2,none⟩ (.slice p.a p.n p.c)).setCell ⟨rb,i*2+1,none⟩ (.slice q.a q.n q.c)) rb n r (fun j=>T j||decide (j=i))∧Only gm rb w ((w.setCell ⟨rb,i*2,none⟩ (.slice p.a p.n p.c)).setCell ⟨rb,i*2+1,none⟩ (.slice q.a q.n q.c)):=by
 have ha:=apart_of hm h
 have ho:Only gm rb w ((w.setCell ⟨rb,i*2,none⟩ (.slice p.a p.n p.c)).setCell ⟨rb,i*2+1,none⟩ (.slice q.a q.n q.c)):=(Only.of_turn_g (Turn.setCell w rb _ _)).trans (Only.of_turn_g (Turn.setCell _ rb _ _))
 refine⟨?_,ho⟩
 obtain⟨cur,h1,h2,h3,h4⟩:=h
 have e1:=heap_setCell_same w rb (i*2) _ 49 (.slice p.a p.n p.c) h1
 have e2:=heap_setCell_same (w.setCell ⟨rb,i*2,none⟩ (.slice p.a p.n p.c)) rb (i*2+1) _ 49 (.slice q.a q.n q.c) e1
 refine⟨_,e2,by simp[h2],?_,fun j hj ht=>?_⟩
 ·intro u hu
  rw[Array.toList_setIfInBounds,Array.toList_setIfInBounds] at hu
  rcases List.mem_or_eq_of_mem_set hu with hu | rfl
  ·rcases List.mem_or_eq_of_mem_set hu with hu | rfl
   ·exact h3 u hu
   ·exact⟨_,_,_,rfl⟩
  ·exact⟨_,_,_,rfl⟩
 ·by_cases e:j=i
  ·subst e
   refine⟨p,q,?_,?_,hq.only ha ho⟩
   ·rw[Array.getElem?_setIfInBounds_ne (by omega),Array.getElem?_setIfInBounds_self_of_lt (by omega)]
   ·rw[Array.getElem?_setIfInBounds_self_of_lt (by simp;omega)]
  ·have ht2:T j=true:=by simpa[e] using ht
   obtain⟨p',q',a1,a2,a3⟩:=h4 j hj ht2
   refine⟨p',q',?_,?_,a3.only ha ho⟩
   ·rw[Array.getElem?_setIfInBounds_ne (by omega),Array.getElem?_setIfInBounds_ne (by omega)];exact a1
   ·rw[Array.getElem?_setIfInBounds_ne (by omega),Array.getElem?_setIfInBounds_ne (by omega)];exact a2
theorem RtM.only (h:RtM w gm N f S) (hr:RtR w rb n r T) (ho:Only gm rb w w') (he:w'.heap[gm]? =w.heap[gm]?):RtM w' gm N f S:=by
 have ha:=apart_of h hr
 obtain⟨V,h1,h2⟩:=h
 refine⟨V,h1.same he,fun x=>⟨(h2 x).1,fun hs=>?_⟩⟩
 obtain⟨p,q,e,hq⟩:=(h2 x).2 hs
 exact⟨p,q,e,hq.only ha ho⟩
theorem gm_ne (hm:RtM w gm N f S) (hr:RtR w rb n r T):gm≠rb:=by
 rintro rfl
 obtain⟨V,h1,_⟩:=hm
 obtain⟨cur,h2,_⟩:=hr
 obtain⟨es,cl,h3⟩:=h1.isMap
 rw[h2] at h3;cases h3
end
section
variable {ops:Array Oper} {rest:List Oper} {o:Oper} {a:Act} {w:World} {Q:Exit→Act→World→Prop} {K:Act→World→Prop}
theorem wp_putV (m x v:Operand) {t e:TypeId} (hop:o.op=Op.mapUpdate t m x v) (ht:Tryz.prog.underlying t=some (.map 3 e)) {b n:Nat} {G:Int→Option Value} (hm:a.eval m= .map (some b)) (h:Mv w b n G) (hn:n<maxLen) {k:Int} (hx:a.eval x= .int .i64 k) (hk:I64 k) {c:Value} (hv:a.eval v=c)
  (hK: ∀w',Mv w' b (n+1) (fun y=>if y=k then some c else G y)→w.grownBy w' (some b)→K (a.put o.dst undef) w'):o.wp Tryz.prog a w K Q:=by
 obtain⟨w',hrun,r1,r2⟩:=h.put hn ht hk c
 unfold Oper.wp
 simp[execOp,hop,hm,hx,hv,hrun,Result.andThen]
 exact hK w' r1 r2
theorem wpList_putV (hg:o.guard=none) (m x v:Operand) {t e:TypeId} (hop:o.op=Op.mapUpdate t m x v) (ht:Tryz.prog.underlying t=some (.map 3 e)) {b n:Nat} {G:Int→Option Value} (hm:a.eval m= .map (some b)) (h:Mv w b n G) (hn:n<maxLen) {k:Int} (hx:a.eval x= .int .i64 k) (hk:I64 k) {c:Value} (hv:a.eval v=c)
  (hK: ∀w',Mv w' b (n+1) (fun y=>if y=k then some c else G y)→w.grownBy w' (some b)→wpList Tryz.prog ops Q rest (a.put o.dst undef) w'):wpList Tryz.prog ops Q (o::rest) a w:=
 wpList_plain hg fun _ hK'=>wp_putV m x v hop ht hm h hn hx hk hv fun w' h1 h2=>hK' _ _ (hK w' h1 h2)
end
end Go.Proofs.YtohifgjeebhijaaGreatDoor
namespace Go.Proofs.YtohifgjeebhijaaGreatDoor
open Go.Rq
theorem whole_dvd {D:Nat} {r:Rat} (hD:D≠0) (h:Whole D r): ∃k,D=r.den*k:=by
 obtain⟨n,e,_⟩:=whole_eq hD h
 refine⟨Nat.gcd n D,?_⟩
 rw[e,rat_den n hD,Nat.div_mul_cancel (Nat.gcd_dvd_right n D)]
def DW (j:Nat) (r:Rat):Prop:=∃D:Nat,D≠0∧D≤big (32*j)∧Whole D r
theorem err_good {x:Rat} {ks:List Kid} (hk: ∀c∈ks,okKid c) (hl:ks.length≤32) (hx:x≤((caps ks:Nat):Rat)):errOf x (ks.map fun c=>(c.1:Int)) (ks.map fun c=>(c.2:Int))=0:=by
 have hs: ∀l:List Kid,(l.map fun c=>(c.2:Int)).sum=((caps l:Nat):Int):=by
  intro l
  induction l with
  | nil=>rfl
  | cons c l ih=>rw[List.map_cons,List.sum_cons,ih,caps];omega
 unfold errOf
 rw[if_neg (by simp),if_neg (by simp;omega),if_neg (by
  intro h
  obtain⟨z,hz,hn⟩:=List.any_eq_true.1 h
  obtain⟨c,hc,rfl⟩:=List.mem_map.1 hz
  have h1:=hk c hc
  unfold okKid at h1
  unfold noW at hn
  simp at hn
  omega),if_neg (by
  intro h
  obtain⟨z,hz,hn⟩:=List.any_eq_true.1 h
  obtain⟨c,hc,rfl⟩:=List.mem_map.1 hz
  have h1:=hk c hc
  unfold okKid at h1
  unfold noC at hn
  simp at hn
  omega),hs,Int.toNat_natCast,if_neg (Rat.not_lt.2 hx)]
theorem err_full {x:Rat} {ws cs:List Int} (h:ws.length=cs.length) (hl:32<ws.length):errOf x ws cs=6:=by
 unfold errOf
 rw[if_neg (fun e=>e h),if_pos hl]
section
variable {L:List Gr} {m k:Int} {ls:List Lf} {root:Int} (F:Fits L m k ls root)
include F
theorem kd_ws (g:Int):wtI L (kg L ls g)++lwI ls (kl ls g)=(kd L ls g).map fun c=>(c.1:Int):=by
 unfold kd wtI lwI
 rw[List.map_append,List.map_map,List.map_map]
 congr 1
 ·apply List.map_congr_left
  intro y hy
  unfold kg at hy
  have h2:=(kids_mem F.ok).1 (List.mem_filter.1 hy).1
  have h3:=F.ok.num _ (gr_mem h2.1)
  show (gr L y).wt=(((gr L y).wt.toNat:Nat):Int)
  omega
 ·apply List.map_congr_left
  intro i hi
  have h2:=F.wt _ (lf_mem (kl_mem.1 hi).1)
  show (lf ls i).2=(((lf ls i).2.toNat:Nat):Int)
  omega
theorem kd_okKid (g:Int): ∀c∈kd L ls g,okKid c:=fun c hc=>by
 have h:=kd_ok F g c hc
 exact⟨h.1,h.2.1,h.2.2.1⟩
theorem level_E {x:Rat} (h0:0≤x) (hx:x≤((ls.length:Nat):Rat)) {g:Int} (hb:belowB L g root=true) (hl:(kd L ls g).length≤32):
  ∃E:Nat,E≠0∧E≤big 32∧∀D,D≠0→Whole D (rate L ls root x g)→Whole (D*E) (lvl L ls root x g):=by
 have hr:=rate_range F h0 hx _ g hb (Nat.le_refl _)
 obtain⟨E,hE,hE2,hw,_,_⟩:=docLevel_whole (D:=(rate L ls root x g).den) (whole_self hr.1) hr.1 (kd_good F g) (fun c hc=>(kd_ok F g c hc).2.1) (fun c hc=>(kd_ok F g c hc).2.2.1) (by rw[kd_caps F (below_has hb)];exact hr.2)
 refine⟨E,hE,?_,fun D hD hW=>?_⟩
 ·refine Nat.le_trans hE2 ?_
  have:=weights_le (kd L ls g) (kd_okKid F g)
  have h3:weights (kd L ls g)+1≤320001:=by omega
  exact Nat.le_trans (Nat.mul_le_mul_left _ h3) (by decide)
 ·obtain⟨c,e⟩:=whole_dvd hD hW
  have:=whole_more c hw
  rw[Nat.mul_right_comm,←e] at this
  exact this
theorem rate_DW {x:Rat} (h0:0≤x) (hx:x≤((ls.length:Nat):Rat)) {g y:Int} (hb:belowB L g root=true) (hl:(kd L ls g).length≤32) (hy:y∈kids L g) {j:Nat} (h:DW j (rate L ls root x g)):DW (j+1) (rate L ls root x y):=by
 obtain⟨E,hE,hE2,hw⟩:=level_E F h0 hx hb hl
 obtain⟨D,hD,hD2,hW⟩:=h
 have hk:=F.kid hb hy
 refine⟨D*E,Nat.mul_ne_zero hD hE,?_,?_⟩
 ·have:big (32*(j+1))=big (32*j)*big 32:=by rw[big_add,Nat.mul_add]
  rw[this]
  exact Nat.mul_le_mul hD2 hE2
 ·rw[rate_step F x hk.1 hk.2.1,hk.2.2.1]
  exact whole_given (hw D hD hW) _
theorem many_below {y c:Int} (h:belowB L y c=true):many L ls y≤many L ls c:=by
 unfold many
 rw[←List.countP_eq_length_filter,←List.countP_eq_length_filter]
 refine List.countP_mono_left fun z _ hz=>?_
 have h1:=of_decide_eq_true hz
 have h2:=of_decide_eq_true h
 unfold belowB
 exact decide_eq_true (F.ok.trans h1 h2)
theorem below_split {g:Int}: ∀(n:Nat) (y:Int),(pth L y).length≤n→has L g=true→belowB L y g=true→¬y=g→∃c∈kids L g,belowB L y c=true
 | n,y,hn,hg,hb,hne=>by
  have hy:=below_has hb
  have hp:=F.ok.yes hy
  cases n with
  | zero=>rw[hp] at hn;simp at hn
  | succ n=>
   have h1:belowB L (gr L y).pa g=true:=by
    rw[F.ok.below_step hy,decide_eq_false hne,Bool.false_or] at hb
    exact hb
   by_cases e:(gr L y).pa=g
   ·refine⟨y,(kids_mem F.ok).2 ⟨hy,e⟩,?_⟩
    unfold belowB;exact decide_eq_true (F.ok.self hy)
   ·obtain⟨c,hc,hbc⟩:=below_split n (gr L y).pa (by rw[hp] at hn;simpa using hn) hg h1 e
    refine⟨c,hc,?_⟩
    unfold belowB at hbc ⊢
    refine decide_eq_true (F.ok.trans ?_ (of_decide_eq_true hbc))
    rw[hp];exact List.mem_cons_of_mem _ (F.ok.self (below_has h1))
theorem below_kid {y g c:Int} (hc:c∈kids L g) (hg:has L g=true) (h:belowB L y c=true):belowB L y g=true:=by
 have h2:=(kids_mem F.ok).1 hc
 unfold belowB at h ⊢
 refine decide_eq_true (F.ok.trans (of_decide_eq_true h) ?_)
 rw[F.ok.yes h2.1,h2.2]
 exact List.mem_cons_of_mem _ (F.ok.self hg)
end
def fewB (L:List Gr) (ls:List Lf) (g:Int):Bool:=(idsG L).all fun h=> !(belowB L h g)||decide ((kd L ls h).length≤32)
def codeG (L:List Gr) (ls:List Lf) (g:Int):Int:=if fewB L ls g=true then 0 else 6
theorem fewB_iff {L:List Gr} {ls:List Lf} {g:Int}:fewB L ls g=true↔∀h,belowB L h g=true→(kd L ls h).length≤32:=by
 unfold fewB
 rw[List.all_eq_true]
 constructor
 ·intro h y hy
  have:=h y (has_ids.1 (below_has hy))
  simpa[hy] using this
 ·intro h y _
  cases hy:belowB L y g with
  | true=>simpa using h y hy
  | false=>rfl
section
variable {L:List Gr} {m k:Int} {ls:List Lf} {root:Int} (F:Fits L m k ls root)
include F
theorem kd_nil {h:Int} (hh:has L h=true) (h0:many L ls h=0):kd L ls h=[]:=by
 have hc:=kd_caps F hh
 rw[h0] at hc
 cases e:kd L ls h with
 | nil=>rfl
 | cons c l=>
  have h1:=(kd_ok F h c (by rw[e];exact List.mem_cons_self)).2.2.2
  rw[e,caps] at hc
  omega
theorem fewB_step {g:Int} (hg:has L g=true):fewB L ls g=true↔(kd L ls g).length≤32∧∀c∈kg L ls g,fewB L ls c=true:=by
 constructor
 ·intro h
  have h1:=fewB_iff.1 h
  refine⟨h1 g (by unfold belowB;exact decide_eq_true (F.ok.self hg)),fun c hc=>fewB_iff.2 fun y hy=>h1 y ?_⟩
  unfold kg at hc
  exact below_kid F (List.mem_filter.1 hc).1 hg hy
 ·rintro⟨h1,h2⟩
  refine fewB_iff.2 fun y hy=>?_
  by_cases e:y=g
  ·rw[e];exact h1
  ·obtain⟨c,hc,hb⟩:=below_split F (g:=g) _ y (Nat.le_refl _) hg hy e
   by_cases h0:0<many L ls c
   ·exact fewB_iff.1 (h2 c (by unfold kg;exact List.mem_filter.2 ⟨hc,decide_eq_true h0⟩)) y hb
   ·have h3:=many_below F (ls:=ls) hb
    rw[kd_nil F (below_has hy) (by omega)]
    exact Nat.zero_le _
theorem done_groups {g:Int} (hg:has L g=true) (hm:0<many L ls g) (x:Int):
  (belowB L x g&&decide (0<many L ls x))=(decide (x=g)||(kg L ls g).any fun c=>belowB L x c&&decide (0<many L ls x)):=by
 rw[Bool.eq_iff_iff]
 simp only[Bool.and_eq_true,Bool.or_eq_true,decide_eq_true_eq,List.any_eq_true]
 constructor
 ·rintro⟨h1,h2⟩
  by_cases e:x=g
  ·exact .inl e
  ·obtain⟨c,hc,hb⟩:=below_split F (g:=g) _ x (Nat.le_refl _) hg h1 e
   have h3:=many_below F (ls:=ls) hb
   exact .inr ⟨c,by unfold kg;exact List.mem_filter.2 ⟨hc,decide_eq_true (by omega)⟩,hb,h2⟩
 ·rintro (rfl | ⟨c,hc,hb,h2⟩)
  ·exact⟨by unfold belowB;exact decide_eq_true (F.ok.self hg),hm⟩
  ·unfold kg at hc
   exact⟨below_kid F (List.mem_filter.1 hc).1 hg hb,h2⟩
theorem done_leaves {g:Int} (hg:has L g=true) {i:Nat} (hi:i<ls.length):
  belowB L (lf ls i).1 g=(decide ((lf ls i).1=g)||(kg L ls g).any fun c=>belowB L (lf ls i).1 c):=by
 rw[Bool.eq_iff_iff]
 simp only[Bool.or_eq_true,decide_eq_true_eq,List.any_eq_true]
 constructor
 ·intro h1
  by_cases e:(lf ls i).1=g
  ·exact .inl e
  ·obtain⟨c,hc,hb⟩:=below_split F (g:=g) _ _ (Nat.le_refl _) hg h1 e
   have h3:=many_below F (ls:=ls) hb
   have h4:=many_own F hi
   exact .inr ⟨c,by unfold kg;exact List.mem_filter.2 ⟨hc,decide_eq_true (by omega)⟩,hb⟩
 ·rintro (e | ⟨c,hc,hb⟩)
  ·rw[e];unfold belowB;exact decide_eq_true (F.ok.self hg)
  ·unfold kg at hc
   exact below_kid F (List.mem_filter.1 hc).1 hg hb
end
end Go.Proofs.YtohifgjeebhijaaGreatDoor
namespace Go.Proofs.YtohifgjeebhijaaGreatDoor
set_option maxRecDepth 100000
set_option maxHeartbeats 4000000
open Go.RowKit Go.Maps Go.Rq
def cntOf (L:List Gr) (root:Int) (ls:List Lf) (y:Int):Int:=if y=root then 0 else ((many L ls y:Nat):Int)
def CtM (w:World) (cm N:Nat) (c:Int→Int):Prop:=∃V:Int→Option Value,Mv w cm N V∧∀y,(V y).getD (.int .i64 0)= .int .i64 (c y)
section
variable {w w':World} {cm N:Nat} {c c':Int→Int}
theorem CtM.lt (h:CtM w cm N c):cm<w.heap.size:=by
 obtain⟨V,h1,_⟩:=h
 exact h1.lt
theorem CtM.below (h:CtM w cm N c) (hb:Below w.heap.size w w'):CtM w' cm N c:=by
 obtain⟨V,h1,h2⟩:=h
 exact⟨V,h1.below hb,h2⟩
theorem CtM.congr (h:CtM w cm N c) (e: ∀y,c y=c' y):CtM w cm N c':=by
 obtain⟨V,h1,h2⟩:=h
 exact⟨V,h1,fun y=>by rw[h2,e]⟩
theorem CtM.same (h:CtM w cm N c) (hs:w'.heap[cm]? =w.heap[cm]?):CtM w' cm N c:=by
 obtain⟨V,h1,h2⟩:=h
 exact⟨V,h1.same hs,h2⟩
theorem CtM.made (w:World):CtM (w.alloc (.map #[] 0)) w.heap.size 0 fun _=>0:=⟨_,Mv.made w,fun _=>rfl⟩
end
theorem many_snoc {L:List Gr} {ls:List Lf} {j:Nat} (h:j<ls.length) (y:Int):many L (ls.take (j+1)) y=many L (ls.take j) y+if belowB L (lf ls j).1 y=true then 1 else 0:=by
 have e:ls.take (j+1)=ls.take j++[lf ls j]:=by
  rw[List.take_add_one,List.getElem?_eq_getElem h]
  simp[lf,List.getD_eq_getElem?_getD,List.getElem?_eq_getElem h]
 unfold many
 rw[e,List.filter_append,List.length_append,List.filter_cons]
 split<;>simp
theorem up_step {L:List Gr} {m k:Int} (ok:Ok L m k) {x g:Int} (hg:has L g=true) (hx:belowB L x g=true) (c:Int) (y:Int):
  (c+if belowB L x y=true∧belowB L (gr L g).pa y=false then 1 else 0)=(c+if belowB L x y=true∧belowB L g y=false then 1 else 0)+if y=g then 1 else 0:=by
 have h1:=ok.below_step hg y
 by_cases e:y=g
 ·subst e
  have h2:belowB L (gr L y).pa y=false:=by unfold belowB;exact decide_eq_false (ok.notUp hg)
  have h3:belowB L y y=true:=by unfold belowB;exact decide_eq_true (ok.self hg)
  simp[hx,h2,h3]
 ·rw[if_neg e,h1,decide_eq_false (fun h=>e h.symm),Bool.false_or]
  omega
theorem up_start {L:List Gr} (x:Int) (c y:Int):c=c+if belowB L x y=true∧belowB L x y=false then 1 else 0:=by
 rw[if_neg (by rintro⟨h1,h2⟩;rw[h1] at h2;cases h2)]
 omega
theorem root_self {L:List Gr} {m k:Int} {ls:List Lf} {root:Int} (F:Fits L m k ls root) (y:Int):belowB L root y=decide (y=root):=by
 have hneg:has L (-1)=false:=F.ok.low (by omega)
 rw[F.ok.below_step F.hr,F.top,below_no hneg,Bool.or_false]
 by_cases e:y=root
 ·rw[decide_eq_true e,decide_eq_true e.symm]
 ·rw[decide_eq_false e,decide_eq_false fun h=>e h.symm]
theorem up_end {L:List Gr} {m k:Int} {ls:List Lf} {root:Int} (F:Fits L m k ls root) {j:Nat} (h:j<ls.length) (y:Int):
  (cntOf L root (ls.take j) y+if belowB L (lf ls j).1 y=true∧belowB L root y=false then 1 else 0)=cntOf L root (ls.take (j+1)) y:=by
 unfold cntOf
 rw[root_self F,many_snoc h]
 by_cases e:y=root
 ·simp[e]
 ·simp only[e,if_false,decide_false,and_true]
  split<;>simp
theorem field1 (i q wt d r me aw:Int) (w:World):(Instr.field 158 (.agg #[.int .i64 i,.int .i64 q,.int .i64 wt,.int .i64 d,.int .i64 r,.int .i64 me,.int .i64 aw]) 1).run Tryz.prog w= .ok (.int .i64 q) w:=by kernel_rfl
theorem Blk.below8 {w w':World} {b t B:Nat} {cs:Array Value} (h:Blk w b t cs) (hb:Below B w w') (hlt:b<B):Blk w' b t cs:=(hb.block b hlt).trans h
theorem only_belowB {w w1 w2:World} {B s:Nat} (h:Only s s w w1) (hb:Below B w1 w2) (e:w.heap.size=B):Only s s w w2:=⟨hb.os.trans h.os,hb.tape.trans h.tape,hb.output.trans h.output,Nat.le_trans h.size hb.size,fun k hk h1 h2=>(hb.block k (by omega)).trans (h.block k hk h1 h2)⟩
section
variable (fp B:Nat) (L:List Gr) (l:List Int) (m k:Int)
theorem count_any (W0:World) (s:Nat) (al:Option Addr) (cl:Nat) (cv gv rv:Value) (ls:List Lf) (root:Int) (F:Fits L m k ls root) (w:World) (hF:IsF W0 B fp L l m k) (hl:RowL W0 (.slice al ls.length cl) ls) (hb0:Below W0.heap.size W0 w) (hs0:W0.heap.size≤s) (hs:Blk w s 82 (cellsS fp (.slice al ls.length cl) cv gv rv)):
  Calls Tryz.prog 60 #[.pointer (some ⟨s,0,none⟩),.int .i64 root] w fun e w'=>e= .returned (.tuple #[])∧∃cm N,w.heap.size≤cm∧Blk w' s 82 (cellsS fp (.slice al ls.length cl) (.map (some cm)) gv rv)∧CtM w' cm N (cntOf L root ls)∧Only s s w w':=by
 have hsl:=hs.lt
 have fz:=hs.fz 2
 have c2:=cS2 hs
 have c1:=cS1 hs
 have hmm:= @run_makeMap Tryz.prog
 have hlen:=F.n64
 have HFF:=Lib.hid F
 have ht:=Turn.setCell w s 2 (.map (some w.heap.size))
 have hsz:=ht.size
 have hs1:Blk (w.setCell ⟨s,2,none⟩ (.map (some w.heap.size))) s 82 (cellsS fp (.slice al ls.length cl) (.map (some w.heap.size)) gv rv):=hs.set 2 _
 have hs2:=Lib.hid (hs1.alloc (.map #[] 0))
 have hct:=CtM.made (w.setCell ⟨s,2,none⟩ (.map (some w.heap.size)))
 rw[hsz] at hct
 have ho:Only s s w ((w.setCell ⟨s,2,none⟩ (.map (some w.heap.size))).alloc (.map #[] 0)):=(Only.of_turn_p ht).trans (Only.of_below ((Below.refl _ _).alloc (Nat.le_refl _) _))
 have HB0:=Lib.hid (hb0.trans (ho.below (p:=s) (g:=s) hb0.size hs0 hs0))
 have HCT:=Lib.hid hct
 have HO:=Lib.hid ho
 have hcmsz:w.heap.size≤((w.setCell ⟨s,2,none⟩ (.map (some w.heap.size))).alloc (.map #[] 0)).heap.size:=ho.size
 have HL:=Lib.hid hl
 clear F hs hs1 hct ho ht hsz hb0
 go_enter Tryz.func60,Tryz.ntmps60
 go_wp2_with fail
 clear c2 fz hmm c1
 generalize (w.setCell ⟨s,2,none⟩ (.map (some w.heap.size))).alloc (.map #[] 0)=w1 at *
 generalize hcm:w.heap.size=cm at *
 go_loopw [16] (fun i wr=>∃(j N:Nat),j≤ls.length∧i= .int .i64 (j:Int)∧N≤16*j∧Hid (CtM wr cm N (cntOf L root (ls.take j)))∧Hid (Below cm w1 wr)∧Hid (Blk wr s 82 (cellsS fp (.slice al ls.length cl) (.map (some cm)) gv rv))∧Hid (Below W0.heap.size W0 wr)) (fun i _=>ls.length - (intOf i).toNat)
 case atStart=>exact⟨0,0,Nat.zero_le _,rfl,by omega,Lib.hid (HCT.out.congr fun y=>by simp[cntOf,many]),Lib.hid (Below.refl _ _),hs2,HB0⟩
 case round=>
  obtain⟨j,N,hj,rfl,hN,HC,HBw,HS,HB⟩:=hrel
  by_cases hlt:j<ls.length
  ·obtain⟨bl,off,rfl,hx0,hx1,_,_⟩:=(HL.out.below HB.out).at hlt
   have hgb:=HFF.out.grp hlt
   have HE:=Lib.hid (fun y=>up_end HFF.out hlt y)
   generalize lf ls j=x at *
   obtain⟨xg,xw⟩:=x
   dsimp only at hx0 hx1 hgb
   have hA:=Blk.new wr 75 #[.int .i64 0,.int .i64 0]
   have hba:Below wr.heap.size wr (wr.alloc (.cells #[.int .i64 0,.int .i64 0] 75)):=(Below.refl _ _).alloc (Nat.le_refl _) _
   have hwr:cm≤wr.heap.size:=Nat.le_trans hcmsz HBw.out.size
   have hw0r:=HB.out.size
   have hcl:=HC.out.lt
   replace HC:=Lib.hid (HC.out.below hba)
   replace HBw:=Lib.hid (HBw.out.trans (hba.mono hwr))
   replace HS:=Lib.hid (HS.out.below hba)
   replace HB:=Lib.hid (HB.out.trans (hba.mono HB.out.size))
   clear hba
   have T1:True:=trivial
   go_wp2_with (first
    | (refine wpList_alloc75 rfl rfl ?_;clear T1;generalize wr.alloc (.cells #[.int .i64 0,.int .i64 0] 75)=w6 at *)
    | (refine wpList_store75 rfl _ _ rfl wr.heap.size xg xw rfl rfl hA rfl ?_;intro w7 hA7 t7;have hx:=cP0 hA7;replace HBw:=Lib.hid (HBw.out.trans (t7.below hwr));replace HC:=Lib.hid (HC.out.same (t7.block cm (Nat.ne_of_lt hcl)));replace HS:=Lib.hid (HS.out.turn t7 (Nat.ne_of_lt (Nat.lt_of_lt_of_le hsl hwr)));replace HB:=Lib.hid (HB.out.trans (t7.below hw0r));clear hA hx0 hx1 t7))
   have HC7:=Lib.hid HC.out
   have HB7:=Lib.hid HB.out
   have HS7:=Lib.hid HS.out
   have HBw7:=Lib.hid HBw.out
   have HGB:=Lib.hid hgb
   have h8:=HFF.out.ok.deep xg
   clear HC HB HS HBw hx hA7
   go_loopw [6] (fun v wr2=>∃(g:Int) (N2:Nat),v= .int .i64 g∧belowB L g root=true∧belowB L xg g=true∧N2+(pth L g).length≤16*j+9∧Hid (CtM wr2 cm N2 (fun y=>cntOf L root (ls.take j) y+if belowB L xg y=true∧belowB L g y=false then 1 else 0))∧Hid (Below cm w1 wr2)∧Hid (Blk wr2 s 82 (cellsS fp (.slice (some ⟨bl,off,none⟩) ls.length cl) (.map (some cm)) gv rv))∧Hid (Below W0.heap.size W0 wr2)) (fun v _=>(pth L (intOf v)).length)
   case atStart=>exact⟨xg,N,rfl,HGB.out,by unfold belowB;exact decide_eq_true (HFF.out.ok.self (below_has HGB.out)),by omega,Lib.hid (HC7.out.congr fun y=>up_start xg _ y),HBw7,HS7,HB7⟩
   case round=>
    clear HC7 HB7 HS7 HBw7 hgb
    obtain⟨g,N2,rfl,hgr,hxg,hN2,HC,HBw,HS,HB⟩:=hrel
    have hgh:=below_has hgr
    have HIG:I64 g:=by
     have h1:=HFF.out.ok.id hgh
     have h2:=HFF.out.ok.mle
     have h3:=HFF.out.ok.k1
     unfold I64;omega
    by_cases e:g=root
    ·subst e
     have hne:(g != g)=false:=by simp
     clear hxg
     go_wp2_with fail
     go_round
     case rel=>exact⟨j+1,N2,by omega,by go_num,by omega,Lib.hid (HC.out.congr fun y=>HE.out y),HBw,HS,HB⟩
     case measure=>simp[intOf];omega
    ·have hne:(g != root)=true:=by simpa using e
     have hne2:=beq_ff e
     obtain⟨V,hV1,hV2⟩:=HC.out
     have hlk:=hV1.look Tryz.underlying80 (zeroI wr) HIG
     have hcg:0≤cntOf L root (ls.take j) g∧cntOf L root (ls.take j) g≤64:=by
      unfold cntOf
      have:=many_le L (ls.take j) g
      rw[List.length_take] at this
      split<;>omega
     have hbg:belowB L g g=true:=by unfold belowB;exact decide_eq_true (HFF.out.ok.self hgh)
     have hvg:=hV2 g
     dsimp only at hvg
     rw[if_neg (c:=belowB L xg g=true∧belowB L g g=false) (by rintro⟨_,h⟩;rw[hbg] at h;cases h),Int.add_zero] at hvg
     rw[hvg] at hlk
     clear hvg
     have hup:=HFF.out.up hgr e
     have hst:=HFF.out.ok.yes hgh
     have hln:(pth L g).length=(pth L (gr L g).pa).length+1:=by rw[hst];rfl
     have HST:=Lib.hid (fun y=>up_step HFF.out.ok hgh hxg (cntOf L root (ls.take j) y) y)
     have HXP:Hid (belowB L xg (gr L g).pa=true):=Lib.hid (by
      unfold belowB at hxg ⊢
      refine decide_eq_true (HFF.out.ok.trans (of_decide_eq_true hxg) ?_)
      rw[hst]
      exact List.mem_cons_of_mem _ (HFF.out.ok.self (below_has hup)))
     have HV:=Lib.hid hV2
     have c2:=cS2 HS.out
     have HLN:=Lib.hid hln
     have HUP:=Lib.hid hup
     have HGH:=Lib.hid hgh
     have hwc:cm≤wr.heap.size:=Nat.le_trans hcmsz HBw.out.size
     have HB2:=Lib.hid HB.out.size
     have HW0:=Lib.hid hs0
     generalize hcge:cntOf L root (ls.take j) g=cg at hlk hcg
     have HCG:=Lib.hid hcge
     clear hV2 hxg hgr hbg hup hst hln HC hgh hcge
     have HTo:Hid (∀W,Below W0.heap.size W0 W→Blk W s 82 (cellsS fp (.slice (some ⟨bl,off,none⟩) ls.length cl) (.map (some cm)) gv rv)→Calls Tryz.prog 98 #[.pointer (some ⟨s,0,none⟩),.int .i64 g] W fun e w'=>e= .returned (.agg #[.int .i64 g,.int .i64 (gr L g).pa,.int .i64 (gr L g).wt,.int .i64 (dep L g),.int .i64 (topI L g),.int .i64 (gr L g).me,.int .i64 (gr L g).aw])∧Below W.heap.size W w'):=Lib.hid fun W hW hS=>told_yes fp B L l m k s _ _ gv rv g W (hF.below hW) hS HIG HGH.out
     have hfd:=field1 g (gr L g).pa (gr L g).wt (dep L g) (topI L g) (gr L g).me (gr L g).aw
     go_wp2_with (first
      | (refine wpList_putV (c:=.int .i64 (cg+1)) rfl _ _ _ rfl Tryz.underlying80 rfl hV1 (by unfold maxLen;omega) rfl HIG rfl ?_;intro w8 h3 h4;have hb8:Below cm wr w8:=(Below.refl _ _).grown h4 hwc (fun q e=>by cases e;exact Nat.le_refl _);have HC8:=Lib.hid h3;replace HS:=Lib.hid (HS.out.below8 hb8 hsl);replace HBw:=Lib.hid (HBw.out.trans hb8);replace HB:=Lib.hid (HB.out.trans (hb8.mono (by omega)));clear h3 h4 hb8 hlk c2)
      | (go_at_call 98;refine(HTo.out w8 HB.out HS.out).mono ?_;rintro e w9 ⟨rfl,hb9⟩))
     go_round
     case rel=>
      refine⟨(gr L g).pa,N2+1,rfl,HUP.out,HXP.out,by have:=HLN.out;omega,Lib.hid ⟨_,HC8.out.below hb9,fun y=>?_⟩,Lib.hid (HBw.out.trans (hb9.mono (Nat.le_trans hcmsz HBw.out.size))),Lib.hid (HS.out.below hb9),Lib.hid (HB.out.trans (hb9.mono HB.out.size))⟩
      have h1:=HST.out y
      dsimp only
      by_cases ey:y=g
      ·subst ey
       rw[if_pos rfl]
       rw[if_pos rfl,HCG.out] at h1
       rw[HCG.out,h1]
       have hbg:belowB L y y=true:=by unfold belowB;exact decide_eq_true (HFF.out.ok.self HGH.out)
       rw[if_neg (c:=belowB L xg y=true∧belowB L y y=false) (by rintro⟨_,h⟩;rw[hbg] at h;cases h)]
       simp
      ·rw[if_neg ey]
       rw[if_neg ey,Int.add_zero] at h1
       rw[h1]
       exact HV.out y
     case measure=>
      have:=HLN.out
      simp[intOf];omega
  ·have ej:j=ls.length:=by omega
   subst ej
   rw[List.take_length] at HC
   go_wp2_with fail
   go_end0
   exact⟨rfl,cm,N,Nat.le_of_eq hcm,HS.out,HC.out,only_belowB HO.out HBw.out hcm⟩
end
end Go.Proofs.YtohifgjeebhijaaGreatDoor
namespace Go.Proofs.YtohifgjeebhijaaGreatDoor
set_option maxRecDepth 100000
set_option maxHeartbeats 4000000
open Go.RowKit Go.Maps Go.Rq
def errL (L:List Gr) (root:Int):List Lf→Int
 | []=>0
 | x::ls=>if belowB L x.1 root=false then 4 else if x.2<1∨10000<x.2 then 13 else errL L root ls
def errS (L:List Gr) (ls:List Lf) (root online:Int):Int:=
 if has L root=false∨topI L root≠root then 4 else if online<1∨64<online then 14 else if 64<ls.length then 6 else errL L root ls
theorem errL_drop {L:List Gr} {root:Int} {ls:List Lf} {j:Nat} (h:j<ls.length):errL L root (ls.drop j)=if belowB L (lf ls j).1 root=false then 4 else if (lf ls j).2<1∨10000<(lf ls j).2 then 13 else errL L root (ls.drop (j+1)):=by
 have e:ls.drop j=lf ls j::ls.drop (j+1):=by
  rw[List.drop_eq_getElem_cons h]
  simp[lf,List.getD_eq_getElem?_getD,List.getElem?_eq_getElem h]
 rw[e,errL]
theorem errL_ok {L:List Gr} {root:Int}: ∀ {ls:List Lf},errL L root ls=0→∀x∈ls,belowB L x.1 root=true∧1≤x.2∧x.2≤10000
 | [],_,x,hx=>by cases hx
 | y::ls,h,x,hx=>by
  rw[errL] at h
  split at h
  ·cases h
  ·rename_i h1
   split at h
   ·cases h
   ·rename_i h2
    rcases List.mem_cons.1 hx with rfl | hx
    ·exact⟨by simpa using h1,by omega,by omega⟩
    ·exact errL_ok h x hx
theorem fits_of {L:List Gr} {m k:Int} {ls:List Lf} {root online:Int} (ok:Ok L m k) (h:errS L ls root online=0):Fits L m k ls root∧1≤online∧online≤64:=by
 unfold errS at h
 split at h
 ·cases h
 ·rename_i h1
  split at h
  ·cases h
  ·rename_i h2
   split at h
   ·cases h
   ·rename_i h3
    have hh:has L root=true:=by
     cases hq:has L root with
     | true=>rfl
     | false=>exact absurd (.inl hq) h1
    have ht:topI L root=root:=by
     by_cases e:topI L root=root
     ·exact e
     ·exact absurd (.inr e) h1
    refine⟨⟨ok,hh,?_,fun x hx=>(errL_ok h x hx).1,fun x hx=>(errL_ok h x hx).2,by omega⟩,by omega,by omega⟩
    rcases ok.pa hh with hp | hp
    ·exact hp
    ·exfalso
     have h4:=ok.top_step hh hp
     have h5:=ok.top_mem hp
     rw[←h4,ht] at h5
     exact ok.notUp hh h5
section
variable (fp B:Nat) (L:List Gr) (l:List Int) (m k:Int)
theorem scheck_no (gi gp gw gd gr gm ga:Int) (s:Nat) (al:Option Addr) (cl:Nat) (cv gv rv:Value) (ls:List Lf) (root online:Int) (w:World) (h:IsF w B fp L l m k) (hs:Blk w s 82 (cellsS fp (.slice al ls.length cl) cv gv rv)) (hl:RowL w (.slice al ls.length cl) ls) (_hr:I64 root) (HG:Hid (Calls Tryz.prog 97 #[.pointer (some ⟨fp,0,none⟩),.int .i64 root] w fun e w'=>e= .returned (.tuple #[.agg (cellsU gi gp gw gd gr gm ga),.int .i64 4])∧Below w.heap.size w w')) (HE:Hid (errS L ls root online=4)):
  Calls Tryz.prog 59 #[.pointer (some ⟨s,0,none⟩),.int .i64 root,.int .i64 online] w fun e w'=>e= .returned (.int .i64 (errS L ls root online))∧Below w.heap.size w w':=by
 have h0:=cS0 hs
 have HS:=Lib.hid hs
 have HL:=Lib.hid hl
 have HFo:=Lib.hid h
 clear h hs hl
 go_enter Tryz.func59,Tryz.ntmps59
 go_wp2_with (first
  | (go_at_call 97;refine HG.out.mono ?_;rintro e w1 ⟨rfl,hb1⟩;have hZ:Blk (w1.alloc (.cells #[.int .i64 0,.int .i64 0,.int .i64 0,.int .i64 0,.int .i64 0,.int .i64 0,.int .i64 0] 158)) w1.heap.size 158 (cellsU 0 0 0 0 0 0 0):=Blk.new w1 158 _;have hb2:=Below.allocS hb1 (.cells #[.int .i64 0,.int .i64 0,.int .i64 0,.int .i64 0,.int .i64 0,.int .i64 0,.int .i64 0] 158);have hsz:=hb1.size)
  | (refine wpList_alloc44 rfl rfl ?_;generalize w1.alloc (.cells #[.int .i64 0,.int .i64 0,.int .i64 0,.int .i64 0,.int .i64 0,.int .i64 0,.int .i64 0] 158)=w2 at *)
  | (refine wpList_store44 rfl _ _ rfl w1.heap.size gi gp gw gd gr gm ga rfl rfl hZ rfl ?_;intro w3 hZ3 t3;have hc4:=cU4 hZ3;have h1c:=cS1 (HS.out.below (hb2.trans (t3.below hsz)));have HB3:=Lib.hid (hb2.trans (t3.below hsz));clear hb2 t3 hZ hsz hb1 h0))
 go_ret
 rw[HE.out]
 exact⟨rfl,HB3.out⟩
theorem scheck_top (gi gp gw gd gr gm ga:Int) (s:Nat) (al:Option Addr) (cl:Nat) (cv gv rv:Value) (ls:List Lf) (root online:Int) (w:World) (h:IsF w B fp L l m k) (hs:Blk w s 82 (cellsS fp (.slice al ls.length cl) cv gv rv)) (hl:RowL w (.slice al ls.length cl) ls) (_hr:I64 root) (HG:Hid (Calls Tryz.prog 97 #[.pointer (some ⟨fp,0,none⟩),.int .i64 root] w fun e w'=>e= .returned (.tuple #[.agg (cellsU gi gp gw gd gr gm ga),.int .i64 0])∧Below w.heap.size w w')) (hne: ¬gr=root) (HE:Hid (errS L ls root online=4)):
  Calls Tryz.prog 59 #[.pointer (some ⟨s,0,none⟩),.int .i64 root,.int .i64 online] w fun e w'=>e= .returned (.int .i64 (errS L ls root online))∧Below w.heap.size w w':=by
 have hn2:(gr != root)=true:=by simpa using hne
 have h0:=cS0 hs
 have HS:=Lib.hid hs
 have HL:=Lib.hid hl
 have HFo:=Lib.hid h
 clear h hs hl
 go_enter Tryz.func59,Tryz.ntmps59
 go_wp2_with (first
  | (go_at_call 97;refine HG.out.mono ?_;rintro e w1 ⟨rfl,hb1⟩;have hZ:Blk (w1.alloc (.cells #[.int .i64 0,.int .i64 0,.int .i64 0,.int .i64 0,.int .i64 0,.int .i64 0,.int .i64 0] 158)) w1.heap.size 158 (cellsU 0 0 0 0 0 0 0):=Blk.new w1 158 _;have hb2:=Below.allocS hb1 (.cells #[.int .i64 0,.int .i64 0,.int .i64 0,.int .i64 0,.int .i64 0,.int .i64 0,.int .i64 0] 158);have hsz:=hb1.size)
  | (refine wpList_alloc44 rfl rfl ?_;generalize w1.alloc (.cells #[.int .i64 0,.int .i64 0,.int .i64 0,.int .i64 0,.int .i64 0,.int .i64 0,.int .i64 0] 158)=w2 at *)
  | (refine wpList_store44 rfl _ _ rfl w1.heap.size gi gp gw gd gr gm ga rfl rfl hZ rfl ?_;intro w3 hZ3 t3;have hc4:=cU4 hZ3;have h1c:=cS1 (HS.out.below (hb2.trans (t3.below hsz)));have HB3:=Lib.hid (hb2.trans (t3.below hsz));clear hb2 t3 hZ hsz hb1 h0))
 go_ret
 rw[HE.out]
 exact⟨rfl,HB3.out⟩
theorem scheck_range (gi gp gw gd gr gm ga:Int) (s:Nat) (al:Option Addr) (cl:Nat) (cv gv rv:Value) (ls:List Lf) (root online:Int) (w:World) (h:IsF w B fp L l m k) (hs:Blk w s 82 (cellsS fp (.slice al ls.length cl) cv gv rv)) (hl:RowL w (.slice al ls.length cl) ls) (hr:I64 root) (HG:Hid (Calls Tryz.prog 97 #[.pointer (some ⟨fp,0,none⟩),.int .i64 root] w fun e w'=>e= .returned (.tuple #[.agg (cellsU gi gp gw gd gr gm ga),.int .i64 0])∧Below w.heap.size w w')) (hgr:gr=root) (ho:online<1∨64<online) (HE:Hid (errS L ls root online=14)):
  Calls Tryz.prog 59 #[.pointer (some ⟨s,0,none⟩),.int .i64 root,.int .i64 online] w fun e w'=>e= .returned (.int .i64 (errS L ls root online))∧Below w.heap.size w w':=by
 subst hgr
 have hn2:(gr != gr)=false:=by simp
 rcases ho with ho | ho
 ·skip
  have h0:=cS0 hs
  have HS:=Lib.hid hs
  have HL:=Lib.hid hl
  have HFo:=Lib.hid h
  clear h hs hl
  go_enter Tryz.func59,Tryz.ntmps59
  go_wp2_with (first
   | (go_at_call 97;refine HG.out.mono ?_;rintro e w1 ⟨rfl,hb1⟩;have hZ:Blk (w1.alloc (.cells #[.int .i64 0,.int .i64 0,.int .i64 0,.int .i64 0,.int .i64 0,.int .i64 0,.int .i64 0] 158)) w1.heap.size 158 (cellsU 0 0 0 0 0 0 0):=Blk.new w1 158 _;have hb2:=Below.allocS hb1 (.cells #[.int .i64 0,.int .i64 0,.int .i64 0,.int .i64 0,.int .i64 0,.int .i64 0,.int .i64 0] 158);have hsz:=hb1.size)
   | (refine wpList_alloc44 rfl rfl ?_;generalize w1.alloc (.cells #[.int .i64 0,.int .i64 0,.int .i64 0,.int .i64 0,.int .i64 0,.int .i64 0,.int .i64 0] 158)=w2 at *)
   | (refine wpList_store44 rfl _ _ rfl w1.heap.size gi gp gw gd gr gm ga rfl rfl hZ rfl ?_;intro w3 hZ3 t3;have hc4:=cU4 hZ3;have h1c:=cS1 (HS.out.below (hb2.trans (t3.below hsz)));have HB3:=Lib.hid (hb2.trans (t3.below hsz));clear hb2 t3 hZ hsz hb1 h0))
  go_ret
  rw[HE.out]
  exact⟨rfl,HB3.out⟩
 ·have ho2: ¬online<1:=by omega
  have h0:=cS0 hs
  have HS:=Lib.hid hs
  have HL:=Lib.hid hl
  have HFo:=Lib.hid h
  clear h hs hl
  go_enter Tryz.func59,Tryz.ntmps59
  go_wp2_with (first
   | (go_at_call 97;refine HG.out.mono ?_;rintro e w1 ⟨rfl,hb1⟩;have hZ:Blk (w1.alloc (.cells #[.int .i64 0,.int .i64 0,.int .i64 0,.int .i64 0,.int .i64 0,.int .i64 0,.int .i64 0] 158)) w1.heap.size 158 (cellsU 0 0 0 0 0 0 0):=Blk.new w1 158 _;have hb2:=Below.allocS hb1 (.cells #[.int .i64 0,.int .i64 0,.int .i64 0,.int .i64 0,.int .i64 0,.int .i64 0,.int .i64 0] 158);have hsz:=hb1.size)
   | (refine wpList_alloc44 rfl rfl ?_;generalize w1.alloc (.cells #[.int .i64 0,.int .i64 0,.int .i64 0,.int .i64 0,.int .i64 0,.int .i64 0,.int .i64 0] 158)=w2 at *)
   | (refine wpList_store44 rfl _ _ rfl w1.heap.size gi gp gw gd gr gm ga rfl rfl hZ rfl ?_;intro w3 hZ3 t3;have hc4:=cU4 hZ3;have h1c:=cS1 (HS.out.below (hb2.trans (t3.below hsz)));have HB3:=Lib.hid (hb2.trans (t3.below hsz));clear hb2 t3 hZ hsz hb1 h0))
  go_ret
  rw[HE.out]
  exact⟨rfl,HB3.out⟩
theorem scheck_full (gi gp gw gd gr gm ga:Int) (s:Nat) (al:Option Addr) (cl:Nat) (cv gv rv:Value) (ls:List Lf) (root online:Int) (w:World) (h:IsF w B fp L l m k) (hs:Blk w s 82 (cellsS fp (.slice al ls.length cl) cv gv rv)) (hl:RowL w (.slice al ls.length cl) ls) (hr:I64 root) (HG:Hid (Calls Tryz.prog 97 #[.pointer (some ⟨fp,0,none⟩),.int .i64 root] w fun e w'=>e= .returned (.tuple #[.agg (cellsU gi gp gw gd gr gm ga),.int .i64 0])∧Below w.heap.size w w')) (hgr:gr=root) (ho: ¬(online<1∨64<online)) (hn:64<ls.length) (hn9:ls.length≤1000) (HE:Hid (errS L ls root online=6)):
  Calls Tryz.prog 59 #[.pointer (some ⟨s,0,none⟩),.int .i64 root,.int .i64 online] w fun e w'=>e= .returned (.int .i64 (errS L ls root online))∧Below w.heap.size w w':=by
 subst hgr
 have hn2:(gr != gr)=false:=by simp
 have ho1: ¬online<1:=by omega
 have ho2: ¬ 64<online:=by omega
 have hn3:(64:Int)<(ls.length:Int):=by omega
 clear ho
 have h0:=cS0 hs
 have HS:=Lib.hid hs
 have HL:=Lib.hid hl
 have HFo:=Lib.hid h
 clear h hs hl
 go_enter Tryz.func59,Tryz.ntmps59
 go_wp2_with (first
  | (go_at_call 97;refine HG.out.mono ?_;rintro e w1 ⟨rfl,hb1⟩;have hZ:Blk (w1.alloc (.cells #[.int .i64 0,.int .i64 0,.int .i64 0,.int .i64 0,.int .i64 0,.int .i64 0,.int .i64 0] 158)) w1.heap.size 158 (cellsU 0 0 0 0 0 0 0):=Blk.new w1 158 _;have hb2:=Below.allocS hb1 (.cells #[.int .i64 0,.int .i64 0,.int .i64 0,.int .i64 0,.int .i64 0,.int .i64 0,.int .i64 0] 158);have hsz:=hb1.size)
  | (refine wpList_alloc44 rfl rfl ?_;generalize w1.alloc (.cells #[.int .i64 0,.int .i64 0,.int .i64 0,.int .i64 0,.int .i64 0,.int .i64 0,.int .i64 0] 158)=w2 at *)
  | (refine wpList_store44 rfl _ _ rfl w1.heap.size gi gp gw gd gr gm ga rfl rfl hZ rfl ?_;intro w3 hZ3 t3;have hc4:=cU4 hZ3;have h1c:=cS1 (HS.out.below (hb2.trans (t3.below hsz)));have HB3:=Lib.hid (hb2.trans (t3.below hsz));clear hb2 t3 hZ hsz hb1 h0))
 go_ret
 rw[HE.out]
 exact⟨rfl,HB3.out⟩
theorem scheck_loop (gi gp gw gd gr gm ga:Int) (s:Nat) (al:Option Addr) (cl:Nat) (cv gv rv:Value) (ls:List Lf) (root online:Int) (w:World) (h:IsF w B fp L l m k) (hs:Blk w s 82 (cellsS fp (.slice al ls.length cl) cv gv rv)) (hl:RowL w (.slice al ls.length cl) ls) (hr:I64 root) (HG:Hid (Calls Tryz.prog 97 #[.pointer (some ⟨fp,0,none⟩),.int .i64 root] w fun e w'=>e= .returned (.tuple #[.agg (cellsU gi gp gw gd gr gm ga),.int .i64 0])∧Below w.heap.size w w')) (hgr:gr=root) (ho: ¬(online<1∨64<online)) (hn:ls.length≤64) (HE:Hid (errS L ls root online=errL L root ls)):
  Calls Tryz.prog 59 #[.pointer (some ⟨s,0,none⟩),.int .i64 root,.int .i64 online] w fun e w'=>e= .returned (.int .i64 (errS L ls root online))∧Below w.heap.size w w':=by
 subst hgr
 have hn2:(gr != gr)=false:=by simp
 have ho1: ¬online<1:=by omega
 have ho2: ¬ 64<online:=by omega
 have hn3: ¬(64:Int)<(ls.length:Int):=by omega
 clear ho
 have h0:=cS0 hs
 have HS:=Lib.hid hs
 have HL:=Lib.hid hl
 have HFo:=Lib.hid h
 clear h hs hl
 go_enter Tryz.func59,Tryz.ntmps59
 go_wp2_with (first
  | (go_at_call 97;refine HG.out.mono ?_;rintro e w1 ⟨rfl,hb1⟩;have hZ:Blk (w1.alloc (.cells #[.int .i64 0,.int .i64 0,.int .i64 0,.int .i64 0,.int .i64 0,.int .i64 0,.int .i64 0] 158)) w1.heap.size 158 (cellsU 0 0 0 0 0 0 0):=Blk.new w1 158 _;have hb2:=Below.allocS hb1 (.cells #[.int .i64 0,.int .i64 0,.int .i64 0,.int .i64 0,.int .i64 0,.int .i64 0,.int .i64 0] 158);have hsz:=hb1.size)
  | (refine wpList_alloc44 rfl rfl ?_;generalize w1.alloc (.cells #[.int .i64 0,.int .i64 0,.int .i64 0,.int .i64 0,.int .i64 0,.int .i64 0,.int .i64 0] 158)=w2 at *)
  | (refine wpList_store44 rfl _ _ rfl w1.heap.size gi gp gw gd gr gm ga rfl rfl hZ rfl ?_;intro w3 hZ3 t3;have hc4:=cU4 hZ3;have h1c:=cS1 (HS.out.below (hb2.trans (t3.below hsz)));have HB3:=Lib.hid (hb2.trans (t3.below hsz));clear hb2 t3 hZ hsz hb1 h0))
 go_loopw [48] (fun i wr=>∃j:Nat,j≤ls.length∧i= .int .i64 (j:Int)∧Hid (errL L gr ls=errL L gr (ls.drop j))∧Hid (Below w.heap.size w wr)) (fun i _=>ls.length - (intOf i).toNat)
 case atStart=>exact⟨0,Nat.zero_le _,rfl,Lib.hid (by simp),HB3⟩
 case round=>
  clear HB3 hZ3 hc4 h1c
  obtain⟨j,hj,rfl,HD,HB⟩:=hrel
  by_cases hlt:j<ls.length
  ·obtain⟨bl,off,rfl,hx0,hx1,hIx,hIw⟩:=(HL.out.below HB.out).at hlt
   have HE2:=Lib.hid (errL_drop (L:=L) (root:=gr) hlt)
   generalize lf ls j=x at *
   obtain⟨xg,xw⟩:=x
   dsimp only at hx0 hx1 hIx hIw
   have hA:=Blk.new wr 75 #[.int .i64 0,.int .i64 0]
   have hw0:=HB.out.size
   replace HB:=Lib.hid (Below.allocS HB.out (.cells #[.int .i64 0,.int .i64 0] 75))
   go_wp2_with (first
    | (refine wpList_alloc75 rfl rfl ?_;generalize wr.alloc (.cells #[.int .i64 0,.int .i64 0] 75)=w6 at *)
    | (refine wpList_store75 rfl _ _ rfl wr.heap.size xg xw rfl rfl hA rfl ?_;intro w7 hA7 t7;replace HB:=Lib.hid (HB.out.trans (t7.below hw0));clear hA hx0 hx1 t7))
   generalize wr.heap.size=tb at *
   have hbd:Below w7.heap.size w7 w7.drew:=(Same.drew w7).below _
   replace HB:=Lib.hid (HB.out.trans (hbd.mono HB.out.size))
   replace hA7:=hA7.below hbd
   clear hbd
   refine Rd.region (fun X=>X.cell? ⟨s,0,none⟩=some (.pointer (some ⟨fp,0,none⟩))∧X.cell? ⟨tb,0,none⟩=some (.int .i64 xg)) 10 [0,1,2,3,4,5,6,8,9] [0,1,2,3,4,5,6,7,8,9] (by kernel_rfl) (by kernel_rfl) (by kernel_rfl) (by kernel_rfl) rfl ⟨cS0 (HS.out.below HB.out),cP0 hA7⟩ ?_
   generalize w7.drew=w7 at *
   refine Rd.seq_float (.pointer (some ⟨s,0,none⟩)) (by simp only[gA,gC];rfl) rfl (by rfl) (fun X _=>by go_simp) ?_
   simp only[Act.put,sA,sB,sC]
   refine Rd.seq_float (.pointer (some ⟨s,0,none⟩)) (by simp only[gA,gB,gC];rfl) rfl (by rfl) (fun X _=>by go_simp) ?_
   simp only[Act.put,sA,sB,sC]
   refine Rd.seq_float (.pointer (some ⟨s,0,none⟩)) (by simp only[gA,gB,gC];rfl) rfl (by rfl) (fun X _=>by go_simp) ?_
   simp only[Act.put,sA,sB,sC]
   refine Rd.seq_float (.pointer (some ⟨fp,0,none⟩)) (by simp only[gA,gB,gC];rfl) rfl (by rfl) (fun X hX=>by have hx1:=hX.1;clear hX;go_simp) ?_
   simp only[Act.put,sA,sB,sC]
   refine Rd.seq_float (.pointer (some ⟨tb,0,none⟩)) (by simp only[gA,gB,gC];rfl) rfl (by rfl) (fun X _=>by go_simp) ?_
   simp only[Act.put,sA,sB,sC]
   refine Rd.seq_float (.int .i64 xg) (by simp only[gA,gB,gC];rfl) rfl (by rfl) (fun X hX=>by have hx1:=hX.2;clear hX;go_simp) ?_
   simp only[Act.put,sA,sB,sC]
   refine Rd.seq_float (.int .i64 gr) (by simp only[gA,gB,gC];rfl) rfl (by rfl) (fun X _=>by go_simp) ?_
   simp only[Act.put,sA,sB,sC]
   refine Rd.seq_move (by simp only[gA,gB,gC];rfl) rfl (by rfl) (fun K hK=>?_)
   go_simp
   refine(Below_any fp B L l m k xg gr w7 (HFo.out.below HB.out) hIx).mono ?_
   rintro e w8 ⟨rfl,hb8⟩
   have p0:=cP0 (hA7.below hb8)
   have p1:=cP1 (hA7.below hb8)
   have s0:=cS0 (HS.out.below (HB.out.trans (hb8.mono HB.out.size)))
   replace HB:=Lib.hid (HB.out.trans (hb8.mono HB.out.size))
   clear hb8
   refine hK _ _ (fun _=>⟨s0,p0⟩) ?_
   clear hK K
   refine Rd.seq_float (.bool (!belowB L xg gr)) (by simp only[gA,gB,gC];rfl) rfl (by rfl) (fun X _=>by go_simp) ?_
   simp only[Act.put,sA,sB,sC]
   refine Rd.seq_float (.bool (!belowB L xg gr)) (by simp only[gA,gB,gC];rfl) rfl (by rfl) (fun X _=>by go_simp) ?_
   simp only[Act.put,sA,sB,sC]
   refine Rd.seq_end ?_
   by_cases hbl:belowB L xg gr=true
   ·rw[hbl]
    by_cases hw1:xw<1
    ·have HE3:Hid (errL L gr ls=13):=Lib.hid (by rw[HD.out,HE2.out];simp[hbl,hw1])
     go_wp2_with fail
     go_ret
     rw[HE.out,HE3.out]
     exact⟨rfl,HB.out⟩
    ·by_cases hw2:10000<xw
     ·have HE3:Hid (errL L gr ls=13):=Lib.hid (by rw[HD.out,HE2.out];simp[hbl,hw2])
      go_wp2_with fail
      go_ret
      rw[HE.out,HE3.out]
      exact⟨rfl,HB.out⟩
     ·have HE3:Hid (errL L gr ls=errL L gr (ls.drop (j+1))):=Lib.hid (by rw[HD.out,HE2.out];simp[hbl,hw1,hw2])
      go_wp2_with fail
      go_round
      case rel=>exact⟨j+1,by omega,by go_num,HE3,HB⟩
      case measure=>simp[intOf];omega
   ·have hbf:belowB L xg gr=false:=by simpa using hbl
    rw[hbf]
    have HE3:Hid (errL L gr ls=4):=Lib.hid (by rw[HD.out,HE2.out];simp[hbf])
    go_wp2_with fail
    go_ret
    rw[HE.out,HE3.out]
    exact⟨rfl,HB.out⟩
  ·have ej:j=ls.length:=by omega
   subst ej
   have HE3:Hid (errL L gr ls=0):=Lib.hid (by rw[HD.out,List.drop_length];rfl)
   go_wp2_with fail
   go_ret
   rw[HE.out,HE3.out]
   exact⟨rfl,HB.out⟩
theorem scheck_any (s:Nat) (al:Option Addr) (cl:Nat) (cv gv rv:Value) (ls:List Lf) (root online:Int) (w:World) (h:IsF w B fp L l m k) (hs:Blk w s 82 (cellsS fp (.slice al ls.length cl) cv gv rv)) (hl:RowL w (.slice al ls.length cl) ls) (hr:I64 root) (hn9:ls.length≤1000):
  Calls Tryz.prog 59 #[.pointer (some ⟨s,0,none⟩),.int .i64 root,.int .i64 online] w fun e w'=>e= .returned (.int .i64 (errS L ls root online))∧Below w.heap.size w w':=by
 cases hh:has L root with
 | false=>exact scheck_no fp B L l m k 0 0 0 0 0 0 0 s al cl cv gv rv ls root online w h hs hl hr (Lib.hid (Group_no fp B L l m k root w h hr hh)) (Lib.hid (by unfold errS;rw[if_pos (.inl hh)]))
 | true=>
  have HG:=Lib.hid (Group_yes fp B L l m k root w h hr hh)
  by_cases ht:topI L root=root
  ·by_cases ho:online<1∨64<online
   ·exact scheck_range fp B L l m k _ _ _ _ _ _ _ s al cl cv gv rv ls root online w h hs hl hr HG ht ho (Lib.hid (by unfold errS;rw[if_neg (by simp[hh,ht]),if_pos ho]))
   ·by_cases hn:64<ls.length
    ·exact scheck_full fp B L l m k _ _ _ _ _ _ _ s al cl cv gv rv ls root online w h hs hl hr HG ht ho hn hn9 (Lib.hid (by unfold errS;rw[if_neg (by simp[hh,ht]),if_neg ho,if_pos hn]))
    ·exact scheck_loop fp B L l m k _ _ _ _ _ _ _ s al cl cv gv rv ls root online w h hs hl hr HG ht ho (by omega) (Lib.hid (by unfold errS;rw[if_neg (by simp[hh,ht]),if_neg ho,if_neg hn]))
  ·exact scheck_top fp B L l m k _ _ _ _ _ _ _ s al cl cv gv rv ls root online w h hs hl hr HG ht (Lib.hid (by unfold errS;rw[if_pos (.inr ht)]))
end
end Go.Proofs.YtohifgjeebhijaaGreatDoor
namespace Go.Proofs.YtohifgjeebhijaaGreatDoor
set_option maxRecDepth 100000
set_option maxHeartbeats 4000000
open Go.RowKit Go.Maps Go.Rq
theorem Pair.only {w w':World} {b t gm rb:Nat} {x y:Value} (h:Pair w b t x y) (ho:Only gm rb w w') (h1:b≠gm) (h2:b≠rb):Pair w' b t x y:=(ho.block b h.lt h1 h2).trans h
structure Sh (W0 w:World) (s fp cm gm rb nC N:Nat) (al:Option Addr) (cl:Nat) (ls:List Lf) (C:Int→Option Value) (f:Int→Rat) (r:Nat→Rat) (S:Int→Bool) (T:Nat→Bool):Prop where
 sol:Blk w s 82 (cellsS fp (.slice al ls.length cl) (.map (some cm)) (.map (some gm)) (.slice (some ⟨rb,0,none⟩) ls.length ls.length))
 mp:RtM w gm N f S
 row:RtR w rb ls.length r T
 cnt:Mv w cm nC C
 bel:Below W0.heap.size W0 w
 gB:W0.heap.size≤gm
 rB:W0.heap.size≤rb
 ne:cm≠gm
section
variable {W0 w w':World} {s fp cm gm rb nC N:Nat} {al:Option Addr} {cl:Nat} {ls:List Lf} {C:Int→Option Value} {f:Int→Rat} {r:Nat→Rat} {S:Int→Bool} {T:Nat→Bool}
theorem Sh.below (h:Sh W0 w s fp cm gm rb nC N al cl ls C f r S T) (hb:Below w.heap.size w w'):Sh W0 w' s fp cm gm rb nC N al cl ls C f r S T:=
 ⟨h.sol.below hb,h.mp.below hb,h.row.below hb,h.cnt.below hb,h.bel.trans (hb.mono h.bel.size),h.gB,h.rB,h.ne⟩
theorem Sh.apart (h:Sh W0 w s fp cm gm rb nC N al cl ls C f r S T):Apart w gm rb:=apart_of h.mp h.row
theorem Sh.sne (h:Sh W0 w s fp cm gm rb nC N al cl ls C f r S T):s≠gm∧s≠rb:=by
 obtain⟨⟨es,c,h1⟩,cur,h2,_⟩:=h.apart
 have h3:=h.sol
 unfold Blk at h3
 constructor
 ·rintro rfl;rw[h3] at h1;cases h1
 ·rintro rfl;rw[h3] at h2;cases h2
theorem Sh.cne (h:Sh W0 w s fp cm gm rb nC N al cl ls C f r S T):cm≠rb:=by
 obtain⟨_,cur,h2,_⟩:=h.apart
 obtain⟨es,c,h1⟩:=h.cnt.isMap
 rintro rfl;rw[h1] at h2;cases h2
theorem Sh.putG {G:Int→Option Value} {p q:Sl} {x:Int} (h:Sh W0 w s fp cm gm rb nC N al cl ls C f r S T) (hq:RQ w p q (f x)) (hm:Mv w' gm (N+1) G) (hg:w.grownBy w' (some gm))
  (hG: ∃V,(Mv w gm N V∧∀x,(S x=false→V x=none)∧(S x=true→∃p q:Sl,V x=some (.agg #[.slice p.a p.n p.c,.slice q.a q.n q.c])∧RQ w p q (f x)))∧G=fun y=>if y=x then some (.agg #[.slice p.a p.n p.c,.slice q.a q.n q.c]) else V y):
  Sh W0 w' s fp cm gm rb nC (N+1) al cl ls C f r (fun y=>S y||decide (y=x)) T:=by
 have ho:Only gm rb w w':=Only.of_grown hg
 exact⟨h.sol.only ho h.sne.1 h.sne.2,h.mp.put h.row hq hG hm hg,h.row.only h.mp hg,h.cnt.only ho h.ne h.cne,h.bel.trans (ho.below h.bel.size h.gB h.rB),h.gB,h.rB,h.ne⟩
theorem Sh.putR {p q:Sl} {i:Nat} (h:Sh W0 w s fp cm gm rb nC N al cl ls C f r S T) (hi:i<ls.length) (hq:RQ w p q (r i)):
  Sh W0 ((w.setCell ⟨rb,i*2,none⟩ (.slice p.a p.n p.c)).setCell ⟨rb,i*2+1,none⟩ (.slice q.a q.n q.c)) s fp cm gm rb nC N al cl ls C f r S (fun j=>T j||decide (j=i))∧Only gm rb w ((w.setCell ⟨rb,i*2,none⟩ (.slice p.a p.n p.c)).setCell ⟨rb,i*2+1,none⟩ (.slice q.a q.n q.c)):=by
 obtain⟨h1,ho⟩:=RtR.put h.mp h.row hi hq
 have hne:=gm_ne h.mp h.row
 refine⟨⟨h.sol.only ho h.sne.1 h.sne.2,h.mp.only h.row ho ?_,h1,h.cnt.only ho h.ne h.cne,h.bel.trans (ho.below h.bel.size h.gB h.rB),h.gB,h.rB,h.ne⟩,ho⟩
 rw[(Turn.setCell _ rb _ _).block gm hne,(Turn.setCell _ rb _ _).block gm hne]
theorem Sh.congr {S':Int→Bool} {T':Nat→Bool} (h:Sh W0 w s fp cm gm rb nC N al cl ls C f r S T) (e1: ∀x,S x=S' x) (e2: ∀i,i<ls.length→T i=T' i):Sh W0 w s fp cm gm rb nC N al cl ls C f r S' T':=
 ⟨h.sol,h.mp.congr e1,h.row.congr e2,h.cnt,h.bel,h.gB,h.rB,h.ne⟩
end
def PartPost (L:List Gr) (ls:List Lf) (root:Int) (x:Rat) (g:Int) (v:Value) (cd:Int) (w:World):Prop:=
 cd=(if (kd L ls g).length≤32 then 0 else 6)∧((kd L ls g).length≤32→RowQ w v ((kd L ls g).map (given (lvl L ls root x g))))
theorem kd_len {L:List Gr} {m k:Int} {ls:List Lf} {root:Int} (F:Fits L m k ls root) (g:Int):(kg L ls g).length≤64∧(kl ls g).length≤64∧(kd L ls g).length=(kg L ls g).length+(kl ls g).length:=by
 refine⟨?_,?_,by simp[kd]⟩
 ·unfold kg
  exact Nat.le_trans (List.length_filter_le _ _) (Nat.le_trans (kids_len L g) F.ok.n64)
 ·unfold kl
  exact Nat.le_trans (List.length_filter_le _ _) (by simp;exact F.n64)
theorem fill_part {L:List Gr} {m k:Int} {ls:List Lf} {root:Int} {x:Rat} (F:Fits L m k ls root) (h0:0≤x) (hx:x≤((ls.length:Nat):Rat)) {g:Int} (hb:belowB L g root=true) (hD:DW (pth L g).length (rate L ls root x g)) (w:World) (p q:Sl) (hq:RQ w p q (rate L ls root x g)) (W:World) (c d:Sl) (hbW:Below w.heap.size w W) (hc:RI W c (wtI L (kg L ls g)++lwI ls (kl ls g))) (hd:RI W d (ctI (fun y=>many L ls y) (kg L ls g)++l1I (kl ls g))):
  Calls Tryz.prog 126 #[.agg #[.slice p.a p.n p.c,.slice q.a q.n q.c],.slice c.a c.n c.c,.slice d.a d.n d.c] W fun e w'=>∃v cd,e= .returned (.tuple #[v,.int .i64 cd])∧PartPost L ls root x g v cd w'∧(∀j,v.ownBlock=some j→w.heap.size≤j)∧Below W.heap.size W w':=by
 have e1:=kd_ws F g
 have e2:ctI (fun y=>many L ls y) (kg L ls g)++l1I (kl ls g)=(kd L ls g).map fun c=>(c.2:Int):=by
  unfold kd ctI l1I
  rw[List.map_append,List.map_map,List.map_map]
  rfl
 rw[e1] at hc
 rw[e2] at hd
 have hr:=rate_range F h0 hx _ g hb (Nat.le_refl _)
 have hcp:rate L ls root x g≤((caps (kd L ls g):Nat):Rat):=by rw[kd_caps F (below_has hb)];exact hr.2
 have hlen:=kd_len F g
 unfold PartPost
 by_cases hl:(kd L ls g).length≤32
 ·obtain⟨D,hD1,hD2,hD3⟩:=hD
  have hd8:=F.ok.deep g
  have hfine:Fine D (rate L ls root x g):=⟨hD1,Nat.le_trans hD2 (big_le (by omega)),hD3⟩
  refine(Fill_good p q c d _ (kd L ls g) D W (hq.below hbW) hc hd hl (Lib.hid (kd_okKid F g)) (Lib.hid hfine) (Lib.hid hcp) (Lib.hid (err_good (kd_okKid F g) hl hcp))).mono ?_
  rintro e w' ⟨v,rfl,h1,h2,h3⟩
  rw[if_pos hl]
  exact⟨v,0,rfl,⟨rfl,fun _=>h1⟩,fun j e=>Nat.le_trans hbW.size (h2 j e),h3⟩
 ·refine(Fill_bad p q c d _ _ _ W (hq.below hbW) hc hd (by rw[List.length_map];omega) 6 (by decide) (by decide) (Lib.hid (err_full (by simp) (by rw[List.length_map];omega)))).mono ?_
  rintro e w' ⟨rfl,h1⟩
  rw[if_neg hl]
  exact⟨_,6,rfl,⟨rfl,fun h=>absurd h hl⟩,(fun j e=>by cases e),h1⟩
theorem kg_mem {L:List Gr} {ls:List Lf} {g y:Int}:y∈kg L ls g↔y∈kids L g∧0<many L ls y:=by
 unfold kg
 rw[List.mem_filter,decide_eq_true_eq]
theorem nget_mem {l:List Nat} {k:Nat} (h:k<l.length):l.getD k 0∈l:=by
 rw[List.getD_eq_getElem?_getD,List.getElem?_eq_getElem h];exact List.getElem_mem h
theorem take_mem {l:List Nat} {k:Nat} (h:k<l.length) (i:Nat):decide (i∈l.take (k+1))=(decide (i∈l.take k)||decide (i=l.getD k 0)):=by
 have e:l.take (k+1)=l.take k++[l.getD k 0]:=by
  rw[List.take_add_one,List.getElem?_eq_getElem h]
  simp[List.getD_eq_getElem?_getD,List.getElem?_eq_getElem h]
 rw[e,Bool.eq_iff_iff]
 simp only[decide_eq_true_eq,Bool.or_eq_true,List.mem_append,List.mem_singleton]
theorem take_any {l:List Int} {k:Nat} (h:k<l.length) (f:Int→Bool):(l.take (k+1)).any f=((l.take k).any f||f (l.getD k 0)):=by
 rw[List.take_add_one,List.getElem?_eq_getElem h,List.any_append]
 simp[List.getD_eq_getElem?_getD,List.getElem?_eq_getElem h]
theorem take_mem2 {l:List Int} {k:Nat} (h:k<l.length) {c:Int} (hc:c∈l.take (k+1)):c∈l.take k∨c=l.getD k 0:=by
 rw[List.take_add_one,List.getElem?_eq_getElem h,List.mem_append] at hc
 rcases hc with hc | hc
 ·exact .inl hc
 ·right
  simp at hc
  simp[List.getD_eq_getElem?_getD,List.getElem?_eq_getElem h,hc]
theorem kd_leaf {L:List Gr} {ls:List Lf} {g:Int} (lv:Rat) {j:Nat} (h:j<(kl ls g).length):((kd L ls g).map (given lv)).getD ((kg L ls g).length+j) 0=given lv (kidL ls ((kl ls g).getD j 0)):=by
 unfold kd
 simp[List.getD_eq_getElem?_getD,List.getElem?_append_right,List.getElem?_eq_getElem h]
theorem kd_kid {L:List Gr} {ls:List Lf} {g:Int} (lv:Rat) {j:Nat} (h:j<(kg L ls g).length):((kd L ls g).map (given lv)).getD j 0=given lv (kidG L ls ((kg L ls g).getD j 0)):=by
 unfold kd
 simp[List.getD_eq_getElem?_getD,List.getElem?_append_left,h]
def fB:Nat→Nat
 | 0=>0
 | n+1=>1+64*fB n
section
variable (fp B:Nat) (L:List Gr) (l:List Int) (m k:Int)
theorem share_any (W0:World) (s cm gm rb nC:Nat) (al:Option Addr) (cl:Nat) (ls:List Lf) (root:Int) (C:Int→Option Value) (x:Rat) (F:Fits L m k ls root) (hF:IsF W0 B fp L l m k) (hL:RowL W0 (.slice al ls.length cl) ls) (h0:0≤x) (hx:x≤((ls.length:Nat):Rat))
  (HC:Hid (∀y,belowB L y root=true→¬y=root→(C y).getD (.int .i64 0)= .int .i64 ((many L ls y:Nat):Int))): ∀(fu:Nat) (g:Int) (w:World) (S:Int→Bool) (T:Nat→Bool) (N:Nat) (p q:Sl),
  belowB L g root=true→9≤(pth L g).length+fu→0<many L ls g→DW (pth L g).length (rate L ls root x g)→N+fB fu≤140737488355327→Sh W0 w s fp cm gm rb nC (N) al cl ls C (rate L ls root x) (leafR L ls root x) S T→RQ w p q (rate L ls root x g)→
  Calls Tryz.prog 61 #[.pointer (some ⟨s,0,none⟩),.int .i64 g,.agg #[.slice p.a p.n p.c,.slice q.a q.n q.c]] w fun e w'=>e= .returned (.int .i64 (codeG L ls g))∧(codeG L ls g=0→∃N',N'≤N+fB fu∧Sh W0 w' s fp cm gm rb nC (N') al cl ls C (rate L ls root x) (leafR L ls root x) (fun y=>S y||(belowB L y g&&decide (0<many L ls y))) (fun i=>T i||belowB L (lf ls i).1 g))∧Only gm rb w w'
 | 0,g,w,S,T,N,p,q,hb,hn,_,_,_,_,_=>by
  have:=F.ok.deep g
  omega
 | fu+1,g,w,S,T,N,p,q,hb,hn,hm,hD,hN,hSh,hq=>by
  have HIH:=Lib.hid (fun c w S T N p q=>share_any W0 s cm gm rb nC al cl ls root C x F hF hL h0 hx HC fu c w S T N p q)
  have hg:=below_has hb
  have HIG:Hid (I64 g):=Lib.hid (by
   have h1:=F.ok.id hg
   have h2:=F.ok.mle
   have h3:=F.ok.k1
   unfold I64;omega)
  have HHG:=Lib.hid hg
  have HBG:=Lib.hid hb
  have HMG:=Lib.hid hm
  have HDW:=Lib.hid hD
  have HNN:=Lib.hid hn
  have HFF:=Lib.hid F
  have hfb:fB (fu+1)=1+64*fB fu:=rfl
  rw[hfb] at hN
  have HN:Hid (N<maxLen):=Lib.hid (by unfold maxLen;omega)
  have HNB:=Lib.hid hN
  clear hN hfb
  have hbx:Below w.heap.size w (w.alloc (.cells #[.slice p.a p.n p.c,.slice q.a q.n q.c] 49)):=(Below.refl _ _).alloc (Nat.le_refl _) _
  have hP5:=Pair.new w 49 (.slice p.a p.n p.c) (.slice q.a q.n q.c)
  have hP5g:=Lib.hid hSh.mp.lt
  have hP5r:=Lib.hid hSh.row.lt
  replace hSh:=hSh.below hbx
  replace hq:=Lib.hid (hq.below hbx)
  have hO:Hid (Only gm rb w (w.alloc (.cells #[.slice p.a p.n p.c,.slice q.a q.n q.c] 49))):=Lib.hid (Only.of_below hbx)
  clear hbx hb hn hm hD hg F
  go_enter Tryz.func61,Tryz.ntmps61
  generalize hr5:w.heap.size=r5 at hP5 hP5g hP5r
  go_wp2_with fail
  replace hP5:=Lib.hid hP5
  generalize w.alloc (.cells #[.slice p.a p.n p.c,.slice q.a q.n q.c] 49)=w1 at *
  have hbd:Below w1.heap.size w1 w1.drew:=(Same.drew w1).below _
  replace hSh:=hSh.below hbd
  replace hq:=Lib.hid (hq.out.below hbd)
  replace hP5:=Lib.hid (hP5.out.below hbd)
  replace hO:=Lib.hid (hO.out.trans (Only.of_below hbd))
  have HAp:=Lib.hid hSh.apart
  clear hbd
  refine Rd.region (fun X=>X.cell? ⟨s,3,none⟩=some (.map (some gm))∧X.cell? ⟨r5,0,none⟩=some (.slice p.a p.n p.c)∧X.cell? ⟨r5,1,none⟩=some (.slice q.a q.n q.c)) 7 [0,1,2,3,4,5] [0,1,2,3,4,5,6] (by kernel_rfl) (by kernel_rfl) (by kernel_rfl) (by kernel_rfl) rfl ⟨cS3 hSh.sol,hP5.out.c0,hP5.out.c1⟩ ?_
  generalize w1.drew=w2 at *
  refine Rd.seq_float (.pointer (some ⟨s,0,none⟩)) (by simp only[gA,gC];rfl) rfl (by rfl) (fun X _=>by go_simp) ?_
  simp only[Act.put,sA,sB,sC]
  refine Rd.seq_float (.pointer (some ⟨s,0,none⟩)) (by simp only[gA,gB,gC];rfl) rfl (by rfl) (fun X _=>by go_simp) ?_
  simp only[Act.put,sA,sB,sC]
  refine Rd.seq_float (.pointer (some ⟨s,3,none⟩)) (by simp only[gA,gB,gC];rfl) rfl (by rfl) (fun X _=>by go_simp) ?_
  simp only[Act.put,sA,sB,sC]
  refine Rd.seq_float (.map (some gm)) (by simp only[gA,gB,gC];rfl) rfl (by rfl) (fun X hX=>by have hx1:=hX.1;clear hX;go_simp) ?_
  simp only[Act.put,sA,sB,sC]
  refine Rd.seq_float (.int .i64 g) (by simp only[gA,gB,gC];rfl) rfl (by rfl) (fun X _=>by go_simp) ?_
  simp only[Act.put,sA,sB,sC]
  refine Rd.seq_float (.agg #[.slice p.a p.n p.c,.slice q.a q.n q.c]) (by simp only[gA,gB,gC];rfl) rfl (by rfl) (fun X hX=>by have hx1:=hX.2.1;have hx2:=hX.2.2;clear hX;go_simp) ?_
  simp only[Act.put,sA,sB,sC]
  refine Rd.seq_move (by simp only[gA,gB,gC];rfl) rfl (by rfl) (fun K hK=>?_)
  obtain⟨V,hV1,hV2⟩:=hSh.mp
  refine wp_putV _ _ _ rfl Tryz.underlying39 rfl hV1 HN.out rfl HIG.out rfl (fun w3 h3 h4=>?_)
  have ho:Only gm rb w2 w3:=Only.of_grown h4
  replace hSh:=hSh.putG hq.out h3 h4 ⟨V,⟨hV1,hV2⟩,rfl⟩
  replace hP5:=Lib.hid (hP5.out.only ho (Nat.ne_of_gt hP5g.out) (Nat.ne_of_gt hP5r.out))
  replace hq:=Lib.hid (hq.out.only HAp.out ho)
  replace hO:=Lib.hid (hO.out.trans ho)
  refine hK _ _ (fun _=>⟨(cS3 hSh.sol),hP5.out.c0,hP5.out.c1⟩) ?_
  refine Rd.seq_end ?_
  clear HAp
  have hbel:=hSh.bel
  have HGO:Hid (Calls Tryz.prog 99 #[.pointer (some ⟨s,0,none⟩),.int .i64 g] w3 fun e w'=>(∃a c,e= .returned (.slice a (kg L ls g).length c)∧RowO w' w3.heap.size (.slice a (kg L ls g).length c) (kg L ls g))∧Below w3.heap.size w3 w'):=
   Lib.hid (groupsOf_any fp B L l m k s cm nC _ _ _ C (fun y=>many L ls y) g w3 (hF.below hbel) hSh.sol hSh.cnt (Lib.hid fun y hy=>by
    have hk:=HFF.out.kid HBG.out hy
    have h1:=many_le L ls y
    have h2:=HFF.out.n64
    exact⟨HC.out y hk.1 hk.2.1,by omega⟩) (by
    have h1:=HFF.out.ok.id HHG.out
    omega))
  have HLO:Hid (∀W,Below w3.heap.size w3 W→Calls Tryz.prog 100 #[.pointer (some ⟨s,0,none⟩),.int .i64 g] W fun e w'=>(∃a c,e= .returned (.slice a (natI (kl ls g)).length c)∧RowO w' W.heap.size (.slice a (natI (kl ls g)).length c) (natI (kl ls g)))∧Below W.heap.size W w'):=
   Lib.hid fun W hW=>leavesOf_any s fp _ _ _ _ ls g W (hSh.sol.below hW) (hL.below (hbel.trans (hW.mono hbel.size))) HFF.out.n64
  have HS:=Lib.hid hSh
  clear hSh hbel
  go_wp2_with (first
   | (go_at_call 99;refine HGO.out.mono ?_;rintro e w4 ⟨⟨a4,c4,rfl,hro4⟩,hb4⟩)
   | (go_at_call 100;refine(HLO.out w4 hb4).mono ?_;rintro e w5 ⟨⟨a5,c5,rfl,hro5⟩,hb5⟩;have hb35:=hb4.trans (hb5.mono hb4.size);have P5:=hP5.out.below hb35;have c0:=P5.c0;have c1:=P5.c1))
  clear c0 c1 P5
  have hro4':=hro4.below hb5
  have hS5:=HS.out.below hb35
  have HPT:=Lib.hid (part_any fp B L l m k s cm nC _ _ _ C (fun y=>many L ls y) ls p q ⟨a4,(kg L ls g).length,c4⟩ ⟨a5,(natI (kl ls g)).length,c5⟩ (kg L ls g) (kl ls g) (PartPost L ls root x g) w5 (hF.below hS5.bel) hS5.sol (hL.below hS5.bel) hS5.cnt
   (Lib.hid fun y hy=>by
    unfold kg at hy
    have h1:=(List.mem_filter.1 hy).1
    have hk:=HFF.out.kid HBG.out h1
    exact⟨hk.2.2.2,HC.out y hk.1 hk.2.1⟩) hro4'.rowI hro5.rowI (kd_len HFF.out g).1 (kd_len HFF.out g).2.1 (Lib.hid fun i hi=>(kl_mem.1 hi).1)
   (Lib.hid (fill_part HFF.out h0 hx HBG.out HDW.out w5 p q (hq.out.below hb35))))
  refine HPT.out.mono ?_
  rintro e w6 ⟨v9,cd,rfl,hpost,hfr,hb6⟩
  clear HPT HGO HLO
  have hb36:=hb35.trans (hb6.mono hb35.size)
  have hS6:=HS.out.below hb36
  have HO6:=Lib.hid (hO.out.trans (Only.of_below hb36))
  have hro4'':=hro4'.below hb6
  have hro5':=hro5.below hb6
  have hKl:=(kd_len HFF.out g).1
  have hJl:=(kd_len HFF.out g).2.1
  have hgmlt:=HS.out.mp.lt
  have hrblt:=HS.out.row.lt
  have hsz4:=hb4.size
  have hsz5:=hb35.size
  by_cases hfew:(kd L ls g).length≤32
  ·have hcd:=hpost.1
   rw[if_pos hfew] at hcd
   subst hcd
   have hrow:=hpost.2 hfew
   have HFEW:=Lib.hid hfew
   clear hpost hfew hro4 hro4' hro5 hb4 hb5 hb35 hb36 hb6 hS5 HS hq hO hP5
   obtain⟨⟨ad9,n9,c9⟩,rfl,hrow⟩:=hrow.sl
   have hn9:n9=(kd L ls g).length:=by have h:=hrow.len;simpa using h
   subst hn9
   have HR6:=Lib.hid hrow
   have HAp6:=Lib.hid hS6.apart
   have HFR:Hid (∀j,(Value.slice ad9 (kd L ls g).length c9).ownBlock=some j→j≠gm∧j≠rb):=Lib.hid fun j e=>by
    have h1:=hfr j e
    exact⟨by omega,by omega⟩
   have HK6:Hid (∀W,Only gm rb w6 W→RowO W w3.heap.size (.slice a4 (kg L ls g).length c4) (kg L ls g)):=Lib.hid fun W hW=>hro4''.only hW hgmlt hrblt
   have HJ6:Hid (∀W,Only gm rb w6 W→RowO W w4.heap.size (.slice a5 (natI (kl ls g)).length c5) (natI (kl ls g))):=Lib.hid fun W hW=>hro5'.only hW (by omega) (by omega)
   have HS6:=Lib.hid hS6
   have HLV:Hid (∀j,j<(kl ls g).length→(kl ls g).getD j 0<ls.length∧((kd L ls g).map (given (lvl L ls root x g))).getD ((kg L ls g).length+j) 0=leafR L ls root x ((kl ls g).getD j 0)∧(natI (kl ls g)).getD j 0=(((kl ls g).getD j 0:Nat):Int)):=Lib.hid fun j hj=>by
    have hm:=kl_mem.1 (nget_mem hj)
    refine⟨hm.1,?_,?_⟩
    ·rw[kd_leaf _ hj]
     unfold leafR
     rw[hm.2]
    ·simp[natI,List.getD_eq_getElem?_getD,List.getElem?_eq_getElem hj]
   have HKV:Hid (∀j,j<(kg L ls g).length→(kg L ls g).getD j 0∈kids L g∧0<many L ls ((kg L ls g).getD j 0)∧((kd L ls g).map (given (lvl L ls root x g))).getD j 0=rate L ls root x ((kg L ls g).getD j 0)):=Lib.hid fun j hj=>by
    have h1:=kg_mem.1 (getD_mem hj)
    have hk:=HFF.out.kid HBG.out h1.1
    refine⟨h1.1,h1.2,?_⟩
    rw[kd_kid _ hj,rate_step HFF.out x hk.1 hk.2.1,hk.2.2.1]
   have HLN:Hid ((kd L ls g).length=(kg L ls g).length+(kl ls g).length∧(natI (kl ls g)).length=(kl ls g).length):=Lib.hid ⟨(kd_len HFF.out g).2.2,by simp[natI]⟩
   clear hrow hfr hro4'' hro5' hS6
   rw[HLN.out.2]
   go_wp2_with fail
   go_loopw [41] (fun v wr=>∃j:Nat,j≤(kl ls g).length∧v= .int .i64 (j:Int)∧Hid (Sh W0 wr s fp cm gm rb nC (N+1) al cl ls C (rate L ls root x) (leafR L ls root x) (fun y=>S y||decide (y=g)) (fun i=>T i||decide (i∈(kl ls g).take j)))∧Hid (Only gm rb w6 wr)) (fun v _=>(kl ls g).length - (intOf v).toNat)
   case atStart=>exact⟨0,Nat.zero_le _,rfl,Lib.hid (HS6.out.congr (fun _=>rfl) (fun i _=>by simp)),Lib.hid (Only.refl _ _ _)⟩
   case round=>
    obtain⟨j,hj,rfl,HS,HO⟩:=hrel
    by_cases hlt:j<(kl ls g).length
    ·obtain⟨hi,hrj,hnj⟩:=HLV.out j hlt
     obtain⟨bj,rfl,_,_,hcj,_⟩:=(HJ6.out _ HO.out).at (j:=j) (by have:=HLN.out;omega)
     rw[hnj] at hcj
     have hrw:=HR6.out.only HAp6.out HO.out HFR.out
     obtain⟨ad,cap,e9,h9⟩:=hrw
     injection e9 with e9a e9b e9c
     obtain⟨B9,rfl,hB9,hc9⟩:=h9 (by intro e;have h:=congrArg List.length e;rw[List.length_map,List.length_nil] at h;have:=HLN.out;omega)
     subst e9a
     obtain⟨pj,qj,d0,d1,hqj⟩:=hc9 ((kg L ls g).length+j) (by have:=HLN.out;simp;omega)
     rw[hrj] at hqj
     have HQJ:=Lib.hid hqj
     clear hc9 h9 hqj e9b e9c hrj hnj
     have HTK:Hid (∀i,decide (i∈(kl ls g).take (j+1))=(decide (i∈(kl ls g).take j)||decide (i=(kl ls g).getD j 0))):=Lib.hid fun i=>take_mem hlt i
     generalize (kl ls g).getD j 0=i at *
     generalize (kg L ls g).length=nK at *
     generalize (kl ls g).length=nJ at *
     generalize (kd L ls g).length=nk at *
     have cs4:=cS4 HS.out.sol
     go_wp2_with fail
     clear hcj
     have hbd:Below wr.heap.size wr wr.drew:=(Same.drew wr).below _
     replace HS:=Lib.hid (HS.out.below hbd)
     replace HO:=Lib.hid (HO.out.trans (Only.of_below hbd))
     replace HQJ:=Lib.hid (HQJ.out.below hbd)
     clear hbd
     refine Rd.region (fun X=>X.cell? ⟨s,4,none⟩=some (.slice (some ⟨rb,0,none⟩) ls.length ls.length)∧X.cell? ⟨B9,(nK+j)*2,none⟩=some (.slice pj.a pj.n pj.c)∧X.cell? ⟨B9,(nK+j)*2+1,none⟩=some (.slice qj.a qj.n qj.c)) 13 [0,1,2,3,4,5,6,7,8,9,10,11,12] [0,1,2,3,4,5,6,7,8,9,10,11,12,13] (by kernel_rfl) (by kernel_rfl) (by kernel_rfl) (by kernel_rfl) rfl ⟨cs4,d0,d1⟩ ?_
     generalize wr.drew=w20 at *
     have fz0:=HS.out.row.fz (i*2)
     have fz1:=HS.out.row.fz (i*2+1)
     obtain⟨_,_,_,ce0⟩:=HS.out.row.cell (i:=i*2) (by omega)
     obtain⟨_,_,_,ce1⟩:=HS.out.row.cell (i:=i*2+1) (by omega)
     refine Rd.seq_float (.pointer (some ⟨s,0,none⟩)) (by simp only[gA,gC];rfl) rfl (by rfl) (fun X _=>by go_simp) ?_
     simp only[Act.put,sA,sB,sC]
     refine Rd.seq_float (.pointer (some ⟨s,0,none⟩)) (by simp only[gA,gB,gC];rfl) rfl (by rfl) (fun X _=>by go_simp) ?_
     simp only[Act.put,sA,sB,sC]
     refine Rd.seq_float (.pointer (some ⟨s,4,none⟩)) (by simp only[gA,gB,gC];rfl) rfl (by rfl) (fun X _=>by go_simp) ?_
     simp only[Act.put,sA,sB,sC]
     refine Rd.seq_float (.slice (some ⟨rb,0,none⟩) ls.length ls.length) (by simp only[gA,gB,gC];rfl) rfl (by rfl) (fun X hX=>by have hx1:=hX.1;clear hX;go_simp) ?_
     simp only[Act.put,sA,sB,sC]
     refine Rd.seq_float (.int .i64 (i:Int)) (by simp only[gA,gB,gC];rfl) rfl (by rfl) (fun X _=>by go_simp) ?_
     simp only[Act.put,sA,sB,sC]
     refine Rd.seq_float (.slice (some ⟨B9,0,none⟩) nk c9) (by simp only[gA,gB,gC];rfl) rfl (by rfl) (fun X _=>by go_simp) ?_
     simp only[Act.put,sA,sB,sC]
     refine Rd.seq_float (.slice a4 nK c4) (by simp only[gA,gB,gC];rfl) rfl (by rfl) (fun X _=>by go_simp) ?_
     simp only[Act.put,sA,sB,sC]
     refine Rd.seq_float (.int .i64 (nK:Int)) (by simp only[gA,gB,gC];rfl) rfl (by rfl) (fun X _=>by go_simp) ?_
     simp only[Act.put,sA,sB,sC]
     refine Rd.seq_float (.int .i64 (j:Int)) (by simp only[gA,gB,gC];rfl) rfl (by rfl) (fun X _=>by go_simp) ?_
     simp only[Act.put,sA,sB,sC]
     refine Rd.seq_float (.int .i64 ((nK:Int)+(j:Int))) (by simp only[gA,gB,gC];rfl) rfl (by rfl) (fun X _=>by have h:=IntWalk.i64_in ((nK:Int)+(j:Int)) (by omega);go_simp) ?_
     simp only[Act.put,sA,sB,sC]
     refine Rd.seq_float (.pointer (some ⟨B9,(nK+j)*2,none⟩)) (by simp only[gA,gB,gC];rfl) rfl (by rfl) (fun X _=>by have h1:(nK:Int)+(j:Int)<(nk:Int):=(by have:=HLN.out;omega);have h0:(0:Int)≤(nK:Int)+(j:Int):=(by omega);have h2:((nK:Int)+(j:Int)).toNat=nK+j:=(by omega);go_simp) ?_
     simp only[Act.put,sA,sB,sC]
     refine Rd.seq_float (.agg #[.slice pj.a pj.n pj.c,.slice qj.a qj.n qj.c]) (by simp only[gA,gB,gC];rfl) rfl (by rfl) (fun X hX=>by have hx1:=hX.2.1;have hx2:=hX.2.2;clear hX;go_simp) ?_
     simp only[Act.put,sA,sB,sC]
     refine Rd.seq_float (.pointer (some ⟨rb,i*2,none⟩)) (by simp only[gA,gB,gC];rfl) rfl (by rfl) (fun X _=>by go_simp) ?_
     simp only[Act.put,sA,sB,sC]
     refine Rd.seq_move (by simp only[gA,gB,gC];rfl) rfl (by rfl) (fun K hK=>?_)
     go_simp
     obtain⟨hs2,ho2⟩:=HS.out.putR hi HQJ.out
     generalize (w20.setCell ⟨rb,i*2,none⟩ (.slice pj.a pj.n pj.c)).setCell ⟨rb,i*2+1,none⟩ (.slice qj.a qj.n qj.c)=w21 at *
     refine hK _ _ (fun h=>absurd h (by omega)) ?_
     refine Rd.seq_end ?_
     go_wp2_with fail
     go_round
     case rel=>exact⟨j+1,by omega,by go_num,Lib.hid (hs2.congr (fun _=>rfl) (fun i' _=>by rw[HTK.out,Bool.or_assoc])),Lib.hid (HO.out.trans ho2)⟩
     case measure=>simp[intOf];omega
    ·have ej:j=(kl ls g).length:=by omega
     subst ej
     clear HS6 HJ6 HLV
     replace HS:=Lib.hid (HS.out.congr (S':=fun y=>S y||decide (y=g)) (T':=fun i=>T i||decide ((lf ls i).1=g)) (fun _=>rfl) (fun i hi=>by
      rw[List.take_length]
      congr 1
      rw[decide_eq_decide,kl_mem]
      exact⟨fun h=>h.2,fun h=>⟨hi,h⟩⟩))
     have HO1:=Lib.hid HO.out
     have HS1:=Lib.hid HS.out
     clear HS HO
     go_wp2_with fail
     go_loopw [62] (fun v wr=>∃j:Nat,j≤(kg L ls g).length∧v= .int .i64 (j:Int)∧Hid (∃N',N'≤N+1+j*fB fu∧Sh W0 wr s fp cm gm rb nC (N') al cl ls C (rate L ls root x) (leafR L ls root x) (fun y=>(S y||decide (y=g))||((kg L ls g).take j).any fun c=>belowB L y c&&decide (0<many L ls y)) (fun i=>(T i||decide ((lf ls i).1=g))||((kg L ls g).take j).any fun c=>belowB L (lf ls i).1 c))∧Hid (Only gm rb w6 wr)∧Hid (∀c∈(kg L ls g).take j,fewB L ls c=true)) (fun v _=>(kg L ls g).length - (intOf v).toNat)
     case atStart=>exact⟨0,Nat.zero_le _,rfl,Lib.hid ⟨N+1,by omega,HS1.out.congr (fun _=>by simp) (fun _ _=>by simp)⟩,HO1,Lib.hid (fun c hc=>by simp at hc)⟩
     case round=>
      clear HS1 HO1
      obtain⟨j,hj,rfl,HS,HO,HFc⟩:=hrel
      by_cases hlt:j<(kg L ls g).length
      ·obtain⟨hcK,hcm,hrj⟩:=HKV.out j hlt
       obtain⟨bj,rfl,_,_,hcj,_⟩:=(HK6.out _ HO.out).at hlt
       have hrw:=HR6.out.only HAp6.out HO.out HFR.out
       obtain⟨ad,cap,e9,h9⟩:=hrw
       injection e9 with e9a e9b e9c
       obtain⟨B9,rfl,hB9,hc9⟩:=h9 (by intro e;have h:=congrArg List.length e;rw[List.length_map,List.length_nil] at h;have:=HLN.out;omega)
       subst e9a
       obtain⟨pj,qj,d0,d1,hqj⟩:=hc9 j (by have:=HLN.out;simp;omega)
       rw[hrj] at hqj
       obtain⟨N',hN',hSh⟩:=HS.out
       have hk:=HFF.out.kid HBG.out hcK
       have hln:(pth L ((kg L ls g).getD j 0)).length=(pth L g).length+1:=by rw[HFF.out.ok.yes hk.2.2.2,hk.2.2.1];rfl
       have hdw:=rate_DW HFF.out h0 hx HBG.out HFEW.out hcK HDW.out
       rw[←hln] at hdw
       have hmul:(j+1)*fB fu≤64*fB fu:=Nat.mul_le_mul_right _ (by omega)
       have HCall:=Lib.hid (HIH.out ((kg L ls g).getD j 0) wr _ _ N' pj qj hk.1 (by have:=HNN.out;omega) hcm hdw (by have:=HNB.out;rw[Nat.add_mul] at hmul;omega) hSh hqj)
       have HAN:Hid (∀f:Int→Bool,((kg L ls g).take (j+1)).any f=(((kg L ls g).take j).any f||f ((kg L ls g).getD j 0))):=Lib.hid fun f=>take_any hlt f
       have HTM:Hid (∀c,c∈(kg L ls g).take (j+1)→c∈(kg L ls g).take j∨c=(kg L ls g).getD j 0):=Lib.hid fun c hc=>take_mem2 hlt hc
       have hjk:j<(kd L ls g).length:=by have:=HLN.out;omega
       have HCK:=Lib.hid hcK
       have HCM:=Lib.hid hcm
       clear hc9 h9 hqj e9b e9c hrj hSh hdw hln hk hcK hcm
       generalize (kg L ls g).getD j 0=c at *
       go_wp2_with fail
       refine HCall.out.mono ?_
       rintro e w8 ⟨rfl,hok,ho⟩
       clear hcj d0 d1
       by_cases hfc:fewB L ls c=true
       ·have e0:codeG L ls c=0:=by unfold codeG;rw[if_pos hfc]
        rw[e0]
        obtain⟨N2,hN2,hS2⟩:=hok e0
        have HS2:=Lib.hid hS2
        have HFC:=Lib.hid hfc
        have HO2:=Lib.hid ho
        clear hok hS2 hfc e0 ho
        go_wp2_with fail
        go_round
        case rel=>exact⟨j+1,by omega,by go_num,Lib.hid ⟨N2,by rw[Nat.add_mul];omega,HS2.out.congr (fun y=>by rw[HAN.out,Bool.or_assoc]) (fun i _=>by rw[HAN.out,Bool.or_assoc])⟩,Lib.hid (HO.out.trans HO2.out),Lib.hid fun c' hc'=>by
         rcases HTM.out c' hc' with h | h
         ·exact HFc.out c' h
         ·rw[h];exact HFC.out⟩
        case measure=>simp[intOf];omega
       ·have e0:codeG L ls c=6:=by unfold codeG;rw[if_neg hfc]
        rw[e0]
        have HCG:Hid (codeG L ls g=6):=Lib.hid (by
         unfold codeG
         rw[if_neg (fun h=>hfc (((fewB_step HFF.out HHG.out).1 h).2 c (kg_mem.2 ⟨HCK.out,HCM.out⟩)))])
        have HO2:=Lib.hid ho
        clear hok hfc e0 ho
        go_wp2_with fail
        go_ret
        rw[HCG.out]
        exact⟨rfl,(fun h=>by cases h),HO6.out.trans (HO.out.trans HO2.out)⟩
      ·have ej:j=(kg L ls g).length:=by omega
       subst ej
       have HCG:Hid (codeG L ls g=0):=Lib.hid (by
        unfold codeG
        rw[if_pos ((fewB_step HFF.out HHG.out).2 ⟨HFEW.out,fun c hc=>HFc.out c (by rw[List.take_length];exact hc)⟩)])
       go_wp2_with fail
       go_ret
       rw[HCG.out]
       obtain⟨N2,hN2,hS2⟩:=HS.out
       refine⟨rfl,fun _=>⟨N2,?_,hS2.congr (fun y=>?_) (fun i hi=>?_)⟩,HO6.out.trans HO.out⟩
       ·have h1:(kg L ls g).length*fB fu≤64*fB fu:=Nat.mul_le_mul_right _ hKl
        show N2≤N+(1+64*fB fu)
        omega
       ·rw[List.take_length,done_groups HFF.out HHG.out HMG.out,Bool.or_assoc]
       ·rw[List.take_length,done_leaves HFF.out HHG.out hi,Bool.or_assoc]
  ·have hcd:=hpost.1
   rw[if_neg hfew] at hcd
   subst hcd
   have HCG:Hid (codeG L ls g=6):=Lib.hid (by
    unfold codeG
    rw[if_neg (fun h=>hfew ((fewB_step HFF.out HHG.out).1 h).1)])
   clear hpost hfr hfew hro4 hro4' hro4'' hro5 hro5' hb4 hb5 hb35 hb36 hb6 hS5 hS6 HS hq hO hP5
   go_wp2_with fail
   go_ret
   rw[HCG.out]
   exact⟨rfl,(fun h=>by cases h),HO6.out⟩
end
end Go.Proofs.YtohifgjeebhijaaGreatDoor
namespace Go.Proofs.YtohifgjeebhijaaGreatDoor
set_option maxRecDepth 100000
set_option maxHeartbeats 4000000
open Go.RowKit Go.Maps Go.Rq
theorem cS4x {w:World} {s fp:Nat} {lv c g r:Value} (h:Blk w s 82 #[.pointer (some ⟨fp,0,none⟩),lv,c,g,r]):w.cell? ⟨s,4,none⟩=some r:=cS4 h
theorem RtR.keep {w w':World} {rb n:Nat} {r:Nat→Rat} (h:RtR w rb n r (fun _=>false)) (e:w'.heap[rb]? =w.heap[rb]?):RtR w' rb n r (fun _=>false):=by
 obtain⟨cur,h1,h2,h3,_⟩:=h
 exact⟨cur,e.trans h1,h2,h3,fun i _ ht=>by cases ht⟩
theorem few_nil {L:List Gr} {m k:Int} {ls:List Lf} {root:Int} (F:Fits L m k ls root) (h:ls=[]):fewB L ls root=true:=by
 refine fewB_iff.2 fun y hy=>?_
 rw[kd_nil F (below_has hy) (by rw[h];rfl)]
 exact Nat.zero_le _
theorem many_nil {L:List Gr} {ls:List Lf} (h:ls=[]) {y:Int}:many L ls y=0:=by rw[h];rfl
theorem RtR.fill {w:World} {rb:Nat} {r:Nat→Rat} {T T':Nat→Bool} {ls:List Lf} (h:RtR w rb ls.length r T) (e:ls=[]):RtR w rb ls.length r T':=h.congr fun i hi=>by rw[e] at hi;simp at hi
theorem wp_makeR {o:Oper} {a:Act} {w:World} {K:Act→World→Prop} {Q:Exit→Act→World→Prop} (l c:Operand) (t:TypeId) (hop:o.op=Op.makeSlice t l c)
  (i:TypeInfo) (ht:Tryz.prog.underlying t=some (.slice 49)) (hi:Tryz.prog.info? 49=some i) (hz:i.zero=some (.agg #[.slice none 0 0,.slice none 0 0])) (hsize:i.size=2) (hby:i.bytes=48)
  (n:Nat) (hl:a.eval l= .int .i64 (n:Int)) (hc:a.eval c= .int .i64 (n:Int)) (hm:n≤1000) (r:Nat→Rat)
  (h: ∀w',RtR w' w.heap.size n r (fun _=>false)→w.grownBy w' none→K (a.put o.dst (.slice (some ⟨w.heap.size,0,none⟩) n n)) w'):o.wp Tryz.prog a w K Q:=by
 have hr:=run_make (P:=Tryz.prog) w t 49 i _ ht hi hz .i64 .i64 (n:Int) (n:Int) (by omega) (by omega) (by rw[hby];omega) (by omega)
 simp only[Int.toNat_natCast] at hr
 unfold Oper.wp
 simp[execOp,hop,hl,hc,hr,Result.andThen]
 exact h _ ⟨_,heap_alloc_new w _,by rw[size_madeCells,hsize],made_sl,fun _ _ ht=>by cases ht⟩ (World.grownBy_alloc w _ none)
def errA (L:List Gr) (ls:List Lf) (root online:Int):Int:=if errS L ls root online=0 then codeG L ls root else errS L ls root online
def shX (ls:List Lf) (online:Int):Rat:=((min online.toNat ls.length:Nat):Rat)
section
variable (fp B:Nat) (L:List Gr) (l:List Int) (m k:Int)
theorem share_root (W0 w:World) (s cm gm rb N:Nat) (al:Option Addr) (cl:Nat) (ls:List Lf) (root online:Int) (x:Rat) (hx:x=shX ls online) (p q:Sl) (F:Fits L m k ls root) (hF:IsF W0 B fp L l m k) (hL:RowL W0 (.slice al ls.length cl) ls) (hne:ls≠[])
  (Z:Blk w s 82 (cellsS fp (.slice al ls.length cl) (.map (some cm)) (.map (some gm)) (.slice (some ⟨rb,0,none⟩) ls.length ls.length))) (M:Mv w gm 0 (fun _=>none)) (R:RtR w rb ls.length (leafR L ls root x) (fun _=>false)) (CT:CtM w cm N (cntOf L root ls)) (bel:Below W0.heap.size W0 w) (gB:W0.heap.size≤gm) (rB:W0.heap.size≤rb) (ne:cm≠gm) (hq:RQ w p q x):
  Calls Tryz.prog 61 #[.pointer (some ⟨s,0,none⟩),.int .i64 root,.agg #[.slice p.a p.n p.c,.slice q.a q.n q.c]] w fun e w'=>e= .returned (.int .i64 (codeG L ls root))∧(codeG L ls root=0→∃N':Nat,Blk w' s 82 (cellsS fp (.slice al ls.length cl) (.map (some cm)) (.map (some gm)) (.slice (some ⟨rb,0,none⟩) ls.length ls.length))∧RtM w' gm N' (rate L ls root x) (fun y=>belowB L y root&&decide (0<many L ls y))∧RtR w' rb ls.length (leafR L ls root x) (fun _=>true))∧Only gm rb w w':=by
 obtain⟨V,hV1,hV2⟩:=CT
 have h0:0≤x:=by rw[hx];exact Rat.natCast_nonneg
 have hle:x≤((ls.length:Nat):Rat):=by rw[hx];exact Rat.natCast_le_natCast.2 (Nat.min_le_right _ _)
 have hpos:=List.length_pos_iff.2 hne
 have hm:=many_root F
 have HC:Hid (∀y,belowB L y root=true→¬y=root→(V y).getD (.int .i64 0)= .int .i64 ((many L ls y:Nat):Int)):=Lib.hid fun y _ hy=>by
  rw[hV2]
  unfold cntOf
  rw[if_neg hy]
 have hd:DW (pth L root).length (rate L ls root x root):=by
  rw[rate_root,hx]
  exact⟨1,by omega,Nat.one_le_two_pow,whole_nat 1 _⟩
 have hSh:Sh W0 w s fp cm gm rb N 0 al cl ls V (rate L ls root x) (leafR L ls root x) (fun _=>false) (fun _=>false):=
  ⟨Z,⟨fun _=>none,M,fun y=>⟨fun _=>rfl,fun h=>by cases h⟩⟩,R,hV1,bel,gB,rB,ne⟩
 have hroot:(pth L root).length=1:=by
  have h1:=F.ok.yes F.hr
  have h2:pth L (-1)=[]:=pth_no (F.ok.low (by omega))
  rw[F.top,h2] at h1
  rw[h1];rfl
 refine(share_any fp B L l m k W0 s cm gm rb N al cl ls root V x F hF hL h0 hle HC 8 root w _ _ 0 p q F.self (by omega) (by omega) hd (by decide+kernel) hSh (by rw[rate_root];exact hq)).mono ?_
 rintro e w' ⟨rfl,hok,ho⟩
 refine⟨rfl,fun h=>?_,ho⟩
 obtain⟨N',_,hS⟩:=hok h
 exact⟨N',hS.sol,hS.mp.congr fun y=>by simp,hS.row.congr fun i hi=>by rw[F.grp hi];rfl⟩
end
section
variable (fp B:Nat) (L:List Gr) (l:List Int) (m k:Int)
theorem solve_no (al:Option Addr) (cl:Nat) (ls:List Lf) (root online cd:Int) (w:World) (h:IsF w B fp L l m k) (hl:RowL w (.slice al ls.length cl) ls) (hr:I64 root) (hn:ls.length≤1000) (HE:Hid (errS L ls root online=cd)) (hcd: ¬cd=0):
  Calls Tryz.prog 27 #[.pointer (some ⟨fp,0,none⟩),.int .i64 root,.int .i64 online,.slice al ls.length cl] w fun e w'=>e= .returned (.tuple #[.pointer none,.int .i64 cd])∧Below w.heap.size w w':=by
 have hc2:(cd != 0)=true:=by simpa using hcd
 have hb1:Below w.heap.size w (w.alloc (.cells #[.pointer (some ⟨fp,0,none⟩),.slice al ls.length cl,.map none,.map none,.slice none 0 0] 82)):=(Below.refl _ _).alloc (Nat.le_refl _) _
 have hs1:Blk (w.alloc (.cells #[.pointer (some ⟨fp,0,none⟩),.slice al ls.length cl,.map none,.map none,.slice none 0 0] 82)) w.heap.size 82 (cellsS fp (.slice al ls.length cl) (.map none) (.map none) (.slice none 0 0)):=Blk.new w 82 _
 have HCk:=Lib.hid (scheck_any fp B L l m k w.heap.size al cl _ _ _ ls root online _ (h.below hb1) hs1 (hl.below hb1) hr hn)
 clear h hl hs1
 go_enter Tryz.func27,Tryz.ntmps27
 go_wp2_with (go_at_call 59;refine HCk.out.mono ?_;rw[HE.out];rintro e w2 ⟨rfl,hb2⟩)
 go_ret2
 exact⟨rfl,hb1.trans (hb2.mono hb1.size)⟩
theorem solve_yes (al:Option Addr) (cl:Nat) (ls:List Lf) (root online:Int) (x:Rat) (hx:x=shX ls online) (w:World) (h:IsF w B fp L l m k) (hl:RowL w (.slice al ls.length cl) ls) (hr:I64 root) (HE:Hid (errS L ls root online=0)):
  Calls Tryz.prog 27 #[.pointer (some ⟨fp,0,none⟩),.int .i64 root,.int .i64 online,.slice al ls.length cl] w fun e w'=>(∃s:Nat,e= .returned (.tuple #[.pointer (some ⟨s,0,none⟩),.int .i64 (codeG L ls root)])∧(codeG L ls root=0→∃(cv:Value) (gm rb N:Nat),Blk w' s 82 (cellsS fp (.slice al ls.length cl) cv (.map (some gm)) (.slice (some ⟨rb,0,none⟩) ls.length ls.length))∧RtM w' gm N (rate L ls root x) (fun y=>belowB L y root&&decide (0<many L ls y))∧RtR w' rb ls.length (leafR L ls root x) (fun _=>true)))∧Below w.heap.size w w':=by
 obtain⟨F,ho1,ho2⟩:=fits_of h.ok HE.out
 have h1000:ls.length≤1000:=by have:=F.n64;omega
 obtain⟨i0,hi,hz0,hz1,hz2⟩:=info_parts Tryz.info49
 have hb1:Below w.heap.size w (w.alloc (.cells #[.pointer (some ⟨fp,0,none⟩),.slice al ls.length cl,.map none,.map none,.slice none 0 0] 82)):=(Below.refl _ _).alloc (Nat.le_refl _) _
 have hs1:Blk (w.alloc (.cells #[.pointer (some ⟨fp,0,none⟩),.slice al ls.length cl,.map none,.map none,.slice none 0 0] 82)) w.heap.size 82 (cellsS fp (.slice al ls.length cl) (.map none) (.map none) (.slice none 0 0)):=Blk.new w 82 _
 have HCk:=Lib.hid (scheck_any fp B L l m k w.heap.size al cl _ _ _ ls root online _ (h.below hb1) hs1 (hl.below hb1) hr h1000)
 have HFo:=Lib.hid h
 have HL:=Lib.hid hl
 have HFF:=Lib.hid F
 have n64:=F.n64
 clear h hl F
 go_enter Tryz.func27,Tryz.ntmps27
 go_wp2_with (go_at_call 59;refine HCk.out.mono ?_;rw[HE.out];rintro e w2 ⟨rfl,hb2⟩)
 have hs2:=hs1.below hb2
 have hB:Below w.heap.size w w2:=hb1.trans (hb2.mono hb1.size)
 obtain⟨s,hs0⟩: ∃s,w.heap.size=s:=⟨_,rfl⟩
 rw[hs0] at hs2
 have hsw:=hs2.lt
 clear hs1 hb1 hb2 HCk
 rw[hs0]
 have Z:Blk w2.drew s 82 (cellsS fp (.slice al ls.length cl) (.map none) (.map none) (.slice none 0 0)):=hs2.drew
 replace hB:Below w.heap.size w w2.drew:=Below.drewS hB
 have hsw2:s<w2.drew.heap.size:=hsw
 clear hs2 hsw
 refine Rd.regionT (fun _=>True) [0,1,3,4,6,7,9,10] (.one 0 (.one 1 (.one 3 (.one 4 (.two 2 (.one 6 (.one 7 (.two 5 (.one 8 (.one 9 (.one 10 (.one 11 .done)))) 8 (.one 5 (.one 9 (.one 10 (.one 11 .done))))))) 5 (.one 2 (.one 6 (.one 7 (.one 8 (.one 9 (.one 10 (.one 11 .done)))))))))))) _ (by kernel_rfl) (by kernel_rfl) (by kernel_rfl) trivial ?_ (fun _ _ h=>h)
 generalize w2.drew=w20 at *
 refine Rd.tr_float (.pointer (some ⟨s,0,none⟩)) (by simp only[gA,gC];rfl) rfl (by rfl) (fun X _=>by go_simp) ?_
 simp only[Act.put,sA,sB,sC]
 refine Rd.tr_float (.pointer (some ⟨s,0,none⟩)) (by simp only[gA,gB,gC];rfl) rfl (by rfl) (fun X _=>by go_simp) ?_
 simp only[Act.put,sA,sB,sC]
 refine Rd.tr_float (.slice al ls.length cl) (by simp only[gA,gB,gC];rfl) rfl (by rfl) (fun X _=>by go_simp) ?_
 simp only[Act.put,sA,sB,sC]
 refine Rd.tr_float (.int .i64 (ls.length:Int)) (by simp only[gA,gB,gC];rfl) rfl (by rfl) (fun X _=>by go_simp) ?_
 simp only[Act.put,sA,sB,sC]
 refine Rd.tr_two (by simp only[gA,gB,gC];rfl) (by rfl) (by simp only[gA,gB,gC];rfl) (by rfl) (fun K hK=>?_) (fun K hK=>?_)
 ·skip
  have G0:=Z.lt
  have hmm:= @run_makeMap Tryz.prog
  go_simp
  clear hmm
  have M:=Mv.made w20
  have hb:Below w20.heap.size w20 (w20.alloc (.map #[] 0)):=(Below.refl _ _).alloc (Nat.le_refl _) _
  generalize w20.alloc (.map #[] 0)=w21 at *
  replace Z:=Z.below hb
  replace hB:=hB.trans (hb.mono hB.size)
  clear hb
  refine hK _ _ trivial ?_
  clear hK K
  refine Rd.tr_float (.pointer (some ⟨s,0,none⟩)) (by simp only[gA,gB,gC];rfl) rfl (by rfl) (fun X _=>by go_simp) ?_
  simp only[Act.put,sA,sB,sC]
  refine Rd.tr_float (.pointer (some ⟨s,3,none⟩)) (by simp only[gA,gB,gC];rfl) rfl (by rfl) (fun X _=>by go_simp) ?_
  simp only[Act.put,sA,sB,sC]
  refine Rd.tr_two (by simp only[gA,gB,gC];rfl) (by rfl) (by simp only[gA,gB,gC];rfl) (by rfl) (fun K hK=>?_) (fun K hK=>?_)
  ·skip
   have R0:=Z.lt
   refine wp_makeR _ _ 33 rfl i0 Tryz.underlying33 hi hz0 hz1 hz2 ls.length rfl rfl h1000 (leafR L ls root x) (fun w22 R hg5=>?_)
   have hb:Below w21.heap.size w21 w22:=(Below.refl _ _).grown hg5 (Nat.le_refl _) (fun j ej=>by cases ej)
   replace Z:=Z.below hb
   replace M:=M.below hb
   replace hB:=hB.trans (hb.mono hB.size)
   clear hb hg5
   refine hK _ _ trivial ?_
   clear hK K
   refine Rd.tr_move (by simp only[gA,gB,gC];rfl) rfl (by rfl) (fun K hK=>?_)
   have fz:=Z.fz 3
   have cz:=cS3 Z
   go_simp
   clear fz cz
   have t8:=Turn.setCell w22 s 3 (.map (some w20.heap.size))
   replace Z:=Z.set 3 (.map (some w20.heap.size))
   generalize w22.setCell ⟨s,3,none⟩ (.map (some w20.heap.size))=w23 at *
   replace M:=M.same (t8.block _ (by omega))
   replace R:=R.keep (t8.block _ (by omega))
   replace hB:=hB.trans (t8.below (Nat.le_of_eq hs0))
   clear t8
   refine hK _ _ trivial ?_
   clear hK K
   refine Rd.tr_float (.pointer (some ⟨s,0,none⟩)) (by simp only[gA,gB,gC];rfl) rfl (by rfl) (fun X _=>by go_simp) ?_
   simp only[Act.put,sA,sB,sC]
   refine Rd.tr_float (.pointer (some ⟨s,4,none⟩)) (by simp only[gA,gB,gC];rfl) rfl (by rfl) (fun X _=>by go_simp) ?_
   simp only[Act.put,sA,sB,sC]
   refine Rd.tr_move (by simp only[gA,gB,gC];rfl) rfl (by rfl) (fun K hK=>?_)
   have fz:=Z.fz 4
   have cz:=cS4x Z
   go_simp
   clear fz cz
   have t8:=Turn.setCell w23 s 4 (.slice (some ⟨w21.heap.size,0,none⟩) ls.length ls.length)
   replace Z:=Z.set 4 (.slice (some ⟨w21.heap.size,0,none⟩) ls.length ls.length)
   generalize w23.setCell ⟨s,4,none⟩ (.slice (some ⟨w21.heap.size,0,none⟩) ls.length ls.length)=w24 at *
   replace M:=M.same (t8.block _ (by omega))
   replace R:=R.keep (t8.block _ (by omega))
   replace hB:=hB.trans (t8.below (Nat.le_of_eq hs0))
   clear t8
   refine hK _ _ trivial ?_
   clear hK K
   refine Rd.tr_end ?_
   have hgm:s<w20.heap.size:=G0
   have hrb:s<w21.heap.size:=R0
   clear G0 R0
   have hww:=hB.size
   have hgl:=M.lt
   have hrl:=R.lt
   generalize w20.heap.size=gm at *
   generalize w21.heap.size=rb at *
   have HM:=Lib.hid M
   have HR:=Lib.hid R
   have HZ:=Lib.hid Z
   have HB:=Lib.hid hB
   by_cases hnil:ls=[]
   ·have hl0:(ls.length:Int)=0:=by rw[hnil];rfl
    have HCG:Hid (codeG L ls root=0):=Lib.hid (by unfold codeG;rw[if_pos (few_nil HFF.out hnil)])
    clear Z M R hB
    go_wp2_with fail
    go_ret2
    rw[HCG.out]
    exact⟨⟨s,rfl,fun _=>⟨_,gm,rb,0,HZ.out,⟨fun _=>none,HM.out,fun y=>⟨fun _=>rfl,fun h=>by simp[many_nil hnil] at h⟩⟩,HR.out.fill hnil⟩⟩,HB.out⟩
   ·have hl0: ¬(ls.length:Int)=0:=by have:=List.length_pos_iff.2 hnil;omega
    have HCt:=Lib.hid (count_any fp B L l m k w s al cl (.map none) (.map (some gm)) (.slice (some ⟨rb,0,none⟩) ls.length ls.length) ls root HFF.out w24 HFo.out HL.out hB (Nat.le_of_eq hs0) Z)
    have hmin:((min online.toNat ls.length:Nat):Int)=min online (ls.length:Int):=by omega
    have HQ:=Lib.hid (fun W=>Qint (min online.toNat ls.length) (by omega) W)
    rw[hmin] at HQ
    clear Z M R hB hmin
    go_wp2_with (first
     | (go_at_call 60;refine HCt.out.mono ?_;rintro e w40 ⟨rfl,cm,Nc,hcm,Z4,CT,ho4⟩;have hb4:=HB.out.trans (ho4.below (p:=s) (g:=s) HB.out.size (Nat.le_of_eq hs0) (Nat.le_of_eq hs0));have M4:=HM.out.same (ho4.block gm hgl (by omega) (by omega));have R4:=HR.out.keep (ho4.block rb hrl (by omega) (by omega));have H4:=Lib.hid (And.intro Z4 (And.intro M4 (And.intro R4 (And.intro CT hb4))));clear Z4 M4 R4 CT hb4 ho4)
     | (go_at_call 18;refine(HQ.out w40).mono ?_;rintro e w41 ⟨p,q,rfl,hq,hb5⟩))
    obtain⟨Z4,M4,R4,CT,hb4⟩:=H4.out
    have hb45:=hb4.trans (hb5.mono hb4.size)
    refine(share_root fp B L l m k w w41 s cm gm rb Nc al cl ls root online x hx p q HFF.out HFo.out HL.out hnil (Z4.below hb5) (M4.below hb5) (R4.below hb5) (CT.below hb5) hb45 (by omega) (by omega) (by omega) (by rw[hx];exact hq)).mono ?_
    rintro e w42 ⟨rfl,hok,ho5⟩
    have HOK:=Lib.hid hok
    have HB6:=Lib.hid (hb45.trans (ho5.below hb45.size (by omega) (by omega)))
    clear hok ho5 hb45 hb5 hq Z4 M4 R4 CT hb4 H4
    go_wp2_with fail
    go_ret2
    refine⟨⟨s,rfl,fun h=>?_⟩,HB6.out⟩
    obtain⟨N',h1,h2,h3⟩:=HOK.out h
    exact⟨_,gm,rb,N',h1,h2,h3⟩
  ·skip
   have fz:=Z.fz 3
   have cz:=cS3 Z
   go_simp
   clear fz cz
   have t8:=Turn.setCell w21 s 3 (.map (some w20.heap.size))
   replace Z:=Z.set 3 (.map (some w20.heap.size))
   generalize w21.setCell ⟨s,3,none⟩ (.map (some w20.heap.size))=w25 at *
   replace M:=M.same (t8.block _ (by omega))
   replace hB:=hB.trans (t8.below (Nat.le_of_eq hs0))
   clear t8
   refine hK _ _ trivial ?_
   clear hK K
   refine Rd.tr_move (by simp only[gA,gB,gC];rfl) rfl (by rfl) (fun K hK=>?_)
   have R0:=Z.lt
   refine wp_makeR _ _ 33 rfl i0 Tryz.underlying33 hi hz0 hz1 hz2 ls.length rfl rfl h1000 (leafR L ls root x) (fun w26 R hg5=>?_)
   have hb:Below w25.heap.size w25 w26:=(Below.refl _ _).grown hg5 (Nat.le_refl _) (fun j ej=>by cases ej)
   replace Z:=Z.below hb
   replace M:=M.below hb
   replace hB:=hB.trans (hb.mono hB.size)
   clear hb hg5
   refine hK _ _ trivial ?_
   clear hK K
   refine Rd.tr_float (.pointer (some ⟨s,0,none⟩)) (by simp only[gA,gB,gC];rfl) rfl (by rfl) (fun X _=>by go_simp) ?_
   simp only[Act.put,sA,sB,sC]
   refine Rd.tr_float (.pointer (some ⟨s,4,none⟩)) (by simp only[gA,gB,gC];rfl) rfl (by rfl) (fun X _=>by go_simp) ?_
   simp only[Act.put,sA,sB,sC]
   refine Rd.tr_move (by simp only[gA,gB,gC];rfl) rfl (by rfl) (fun K hK=>?_)
   have fz:=Z.fz 4
   have cz:=cS4x Z
   go_simp
   clear fz cz
   have t8:=Turn.setCell w26 s 4 (.slice (some ⟨w25.heap.size,0,none⟩) ls.length ls.length)
   replace Z:=Z.set 4 (.slice (some ⟨w25.heap.size,0,none⟩) ls.length ls.length)
   generalize w26.setCell ⟨s,4,none⟩ (.slice (some ⟨w25.heap.size,0,none⟩) ls.length ls.length)=w27 at *
   replace M:=M.same (t8.block _ (by omega))
   replace R:=R.keep (t8.block _ (by omega))
   replace hB:=hB.trans (t8.below (Nat.le_of_eq hs0))
   clear t8
   refine hK _ _ trivial ?_
   clear hK K
   refine Rd.tr_end ?_
   have hgm:s<w20.heap.size:=G0
   have hrb:s<w25.heap.size:=R0
   clear G0 R0
   have hww:=hB.size
   have hgl:=M.lt
   have hrl:=R.lt
   generalize w20.heap.size=gm at *
   generalize w25.heap.size=rb at *
   have HM:=Lib.hid M
   have HR:=Lib.hid R
   have HZ:=Lib.hid Z
   have HB:=Lib.hid hB
   by_cases hnil:ls=[]
   ·have hl0:(ls.length:Int)=0:=by rw[hnil];rfl
    have HCG:Hid (codeG L ls root=0):=Lib.hid (by unfold codeG;rw[if_pos (few_nil HFF.out hnil)])
    clear Z M R hB
    go_wp2_with fail
    go_ret2
    rw[HCG.out]
    exact⟨⟨s,rfl,fun _=>⟨_,gm,rb,0,HZ.out,⟨fun _=>none,HM.out,fun y=>⟨fun _=>rfl,fun h=>by simp[many_nil hnil] at h⟩⟩,HR.out.fill hnil⟩⟩,HB.out⟩
   ·have hl0: ¬(ls.length:Int)=0:=by have:=List.length_pos_iff.2 hnil;omega
    have HCt:=Lib.hid (count_any fp B L l m k w s al cl (.map none) (.map (some gm)) (.slice (some ⟨rb,0,none⟩) ls.length ls.length) ls root HFF.out w27 HFo.out HL.out hB (Nat.le_of_eq hs0) Z)
    have hmin:((min online.toNat ls.length:Nat):Int)=min online (ls.length:Int):=by omega
    have HQ:=Lib.hid (fun W=>Qint (min online.toNat ls.length) (by omega) W)
    rw[hmin] at HQ
    clear Z M R hB hmin
    go_wp2_with (first
     | (go_at_call 60;refine HCt.out.mono ?_;rintro e w40 ⟨rfl,cm,Nc,hcm,Z4,CT,ho4⟩;have hb4:=HB.out.trans (ho4.below (p:=s) (g:=s) HB.out.size (Nat.le_of_eq hs0) (Nat.le_of_eq hs0));have M4:=HM.out.same (ho4.block gm hgl (by omega) (by omega));have R4:=HR.out.keep (ho4.block rb hrl (by omega) (by omega));have H4:=Lib.hid (And.intro Z4 (And.intro M4 (And.intro R4 (And.intro CT hb4))));clear Z4 M4 R4 CT hb4 ho4)
     | (go_at_call 18;refine(HQ.out w40).mono ?_;rintro e w41 ⟨p,q,rfl,hq,hb5⟩))
    obtain⟨Z4,M4,R4,CT,hb4⟩:=H4.out
    have hb45:=hb4.trans (hb5.mono hb4.size)
    refine(share_root fp B L l m k w w41 s cm gm rb Nc al cl ls root online x hx p q HFF.out HFo.out HL.out hnil (Z4.below hb5) (M4.below hb5) (R4.below hb5) (CT.below hb5) hb45 (by omega) (by omega) (by omega) (by rw[hx];exact hq)).mono ?_
    rintro e w42 ⟨rfl,hok,ho5⟩
    have HOK:=Lib.hid hok
    have HB6:=Lib.hid (hb45.trans (ho5.below hb45.size (by omega) (by omega)))
    clear hok ho5 hb45 hb5 hq Z4 M4 R4 CT hb4 H4
    go_wp2_with fail
    go_ret2
    refine⟨⟨s,rfl,fun h=>?_⟩,HB6.out⟩
    obtain⟨N',h1,h2,h3⟩:=HOK.out h
    exact⟨_,gm,rb,N',h1,h2,h3⟩
 ·skip
  have R0:=Z.lt
  refine wp_makeR _ _ 33 rfl i0 Tryz.underlying33 hi hz0 hz1 hz2 ls.length rfl rfl h1000 (leafR L ls root x) (fun w28 R hg5=>?_)
  have hb:Below w20.heap.size w20 w28:=(Below.refl _ _).grown hg5 (Nat.le_refl _) (fun j ej=>by cases ej)
  replace Z:=Z.below hb
  replace hB:=hB.trans (hb.mono hB.size)
  clear hb hg5
  refine hK _ _ trivial ?_
  clear hK K
  refine Rd.tr_move (by simp only[gA,gB,gC];rfl) rfl (by rfl) (fun K hK=>?_)
  have G0:=Z.lt
  have hmm:= @run_makeMap Tryz.prog
  go_simp
  clear hmm
  have M:=Mv.made w28
  have hb:Below w28.heap.size w28 (w28.alloc (.map #[] 0)):=(Below.refl _ _).alloc (Nat.le_refl _) _
  generalize w28.alloc (.map #[] 0)=w29 at *
  replace Z:=Z.below hb
  replace R:=R.below hb
  replace hB:=hB.trans (hb.mono hB.size)
  clear hb
  refine hK _ _ trivial ?_
  clear hK K
  refine Rd.tr_float (.pointer (some ⟨s,0,none⟩)) (by simp only[gA,gB,gC];rfl) rfl (by rfl) (fun X _=>by go_simp) ?_
  simp only[Act.put,sA,sB,sC]
  refine Rd.tr_float (.pointer (some ⟨s,3,none⟩)) (by simp only[gA,gB,gC];rfl) rfl (by rfl) (fun X _=>by go_simp) ?_
  simp only[Act.put,sA,sB,sC]
  refine Rd.tr_move (by simp only[gA,gB,gC];rfl) rfl (by rfl) (fun K hK=>?_)
  have fz:=Z.fz 3
  have cz:=cS3 Z
  go_simp
  clear fz cz
  have t8:=Turn.setCell w29 s 3 (.map (some w28.heap.size))
  replace Z:=Z.set 3 (.map (some w28.heap.size))
  generalize w29.setCell ⟨s,3,none⟩ (.map (some w28.heap.size))=w30 at *
  replace M:=M.same (t8.block _ (by omega))
  replace R:=R.keep (t8.block _ (by omega))
  replace hB:=hB.trans (t8.below (Nat.le_of_eq hs0))
  clear t8
  refine hK _ _ trivial ?_
  clear hK K
  refine Rd.tr_float (.pointer (some ⟨s,0,none⟩)) (by simp only[gA,gB,gC];rfl) rfl (by rfl) (fun X _=>by go_simp) ?_
  simp only[Act.put,sA,sB,sC]
  refine Rd.tr_float (.pointer (some ⟨s,4,none⟩)) (by simp only[gA,gB,gC];rfl) rfl (by rfl) (fun X _=>by go_simp) ?_
  simp only[Act.put,sA,sB,sC]
  refine Rd.tr_move (by simp only[gA,gB,gC];rfl) rfl (by rfl) (fun K hK=>?_)
  have fz:=Z.fz 4
  have cz:=cS4x Z
  go_simp
  clear fz cz
  have t8:=Turn.setCell w30 s 4 (.slice (some ⟨w20.heap.size,0,none⟩) ls.length ls.length)
  replace Z:=Z.set 4 (.slice (some ⟨w20.heap.size,0,none⟩) ls.length ls.length)
  generalize w30.setCell ⟨s,4,none⟩ (.slice (some ⟨w20.heap.size,0,none⟩) ls.length ls.length)=w31 at *
  replace M:=M.same (t8.block _ (by omega))
  replace R:=R.keep (t8.block _ (by omega))
  replace hB:=hB.trans (t8.below (Nat.le_of_eq hs0))
  clear t8
  refine hK _ _ trivial ?_
  clear hK K
  refine Rd.tr_end ?_
  have hgm:s<w28.heap.size:=G0
  have hrb:s<w20.heap.size:=R0
  clear G0 R0
  have hww:=hB.size
  have hgl:=M.lt
  have hrl:=R.lt
  generalize w28.heap.size=gm at *
  generalize w20.heap.size=rb at *
  have HM:=Lib.hid M
  have HR:=Lib.hid R
  have HZ:=Lib.hid Z
  have HB:=Lib.hid hB
  by_cases hnil:ls=[]
  ·have hl0:(ls.length:Int)=0:=by rw[hnil];rfl
   have HCG:Hid (codeG L ls root=0):=Lib.hid (by unfold codeG;rw[if_pos (few_nil HFF.out hnil)])
   clear Z M R hB
   go_wp2_with fail
   go_ret2
   rw[HCG.out]
   exact⟨⟨s,rfl,fun _=>⟨_,gm,rb,0,HZ.out,⟨fun _=>none,HM.out,fun y=>⟨fun _=>rfl,fun h=>by simp[many_nil hnil] at h⟩⟩,HR.out.fill hnil⟩⟩,HB.out⟩
  ·have hl0: ¬(ls.length:Int)=0:=by have:=List.length_pos_iff.2 hnil;omega
   have HCt:=Lib.hid (count_any fp B L l m k w s al cl (.map none) (.map (some gm)) (.slice (some ⟨rb,0,none⟩) ls.length ls.length) ls root HFF.out w31 HFo.out HL.out hB (Nat.le_of_eq hs0) Z)
   have hmin:((min online.toNat ls.length:Nat):Int)=min online (ls.length:Int):=by omega
   have HQ:=Lib.hid (fun W=>Qint (min online.toNat ls.length) (by omega) W)
   rw[hmin] at HQ
   clear Z M R hB hmin
   go_wp2_with (first
    | (go_at_call 60;refine HCt.out.mono ?_;rintro e w40 ⟨rfl,cm,Nc,hcm,Z4,CT,ho4⟩;have hb4:=HB.out.trans (ho4.below (p:=s) (g:=s) HB.out.size (Nat.le_of_eq hs0) (Nat.le_of_eq hs0));have M4:=HM.out.same (ho4.block gm hgl (by omega) (by omega));have R4:=HR.out.keep (ho4.block rb hrl (by omega) (by omega));have H4:=Lib.hid (And.intro Z4 (And.intro M4 (And.intro R4 (And.intro CT hb4))));clear Z4 M4 R4 CT hb4 ho4)
    | (go_at_call 18;refine(HQ.out w40).mono ?_;rintro e w41 ⟨p,q,rfl,hq,hb5⟩))
   obtain⟨Z4,M4,R4,CT,hb4⟩:=H4.out
   have hb45:=hb4.trans (hb5.mono hb4.size)
   refine(share_root fp B L l m k w w41 s cm gm rb Nc al cl ls root online x hx p q HFF.out HFo.out HL.out hnil (Z4.below hb5) (M4.below hb5) (R4.below hb5) (CT.below hb5) hb45 (by omega) (by omega) (by omega) (by rw[hx];exact hq)).mono ?_
   rintro e w42 ⟨rfl,hok,ho5⟩
   have HOK:=Lib.hid hok
   have HB6:=Lib.hid (hb45.trans (ho5.below hb45.size (by omega) (by omega)))
   clear hok ho5 hb45 hb5 hq Z4 M4 R4 CT hb4 H4
   go_wp2_with fail
   go_ret2
   refine⟨⟨s,rfl,fun h=>?_⟩,HB6.out⟩
   obtain⟨N',h1,h2,h3⟩:=HOK.out h
   exact⟨_,gm,rb,N',h1,h2,h3⟩
end
end Go.Proofs.YtohifgjeebhijaaGreatDoor
namespace Go.Proofs.YtohifgjeebhijaaGreatDoor
set_option maxRecDepth 100000
set_option maxHeartbeats 4000000
open Go.RowKit Go.Maps Go.Rq
def rlist (L:List Gr) (ls:List Lf) (root online:Int):List Rat:=(List.range ls.length).map (leafR L ls root (shX ls online))
theorem RtR.rowQ {w:World} {rb n:Nat} {r:Nat→Rat} (h:RtR w rb n r (fun _=>true)):RowQ w (.slice (some ⟨rb,0,none⟩) n n) ((List.range n).map r):=by
 have hlt:=h.lt
 obtain⟨cur,h1,h2,h3,h4⟩:=h
 refine⟨_,n,by rw[List.length_map,List.length_range],fun _=>⟨rb,rfl,hlt,fun j hj=>?_⟩⟩
 rw[List.length_map,List.length_range] at hj
 obtain⟨p,q,a1,a2,a3⟩:=h4 j hj rfl
 refine⟨p,q,?_,?_,?_⟩
 ·rw[cell_of_row w rb (j*2) _ 49 (0,0) h1];exact a1
 ·rw[cell_of_row w rb (j*2+1) _ 49 (0,0) h1];exact a2
 ·simp[List.getD_eq_getElem?_getD,hj];exact a3
section
variable (fp B:Nat) (L:List Gr) (l:List Int) (m k:Int)
theorem Rates_any (al:Option Addr) (cl:Nat) (ls:List Lf) (root online:Int) (w:World) (h:IsF w B fp L l m k) (hl:RowL w (.slice al ls.length cl) ls) (hr:I64 root) (hn:ls.length≤1000):
  Calls Tryz.prog 11 #[.pointer (some ⟨fp,0,none⟩),.int .i64 root,.int .i64 online,.slice al ls.length cl] w fun e w'=>(∃v,e= .returned (.tuple #[v,.int .i64 (errA L ls root online)])∧(errA L ls root online=0→RowQ w' v (rlist L ls root online))∧(¬errA L ls root online=0→v= .slice none 0 0))∧Below w.heap.size w w':=by
 by_cases hs:errS L ls root online=0
 ·have he:errA L ls root online=codeG L ls root:=by unfold errA;rw[if_pos hs]
  have HSo:=Lib.hid (solve_yes fp B L l m k al cl ls root online _ rfl w h hl hr (Lib.hid hs))
  rw[he]
  clear h hl he hs
  by_cases hc:codeG L ls root=0
  ·have HCG:=Lib.hid hc
   go_enter Tryz.func11,Tryz.ntmps11
   go_wp2_with (go_at_call 27;refine HSo.out.mono ?_;rw[HCG.out];rintro e w2 ⟨⟨s,rfl,hok⟩,hb⟩;obtain⟨cv,gm,rb,N,Z,M,R⟩:=hok rfl;have hz:=cS4 Z;have HM:=Lib.hid M;have HR:=Lib.hid R;have HB:=Lib.hid hb;clear Z M R hb hok hc)
   go_ret2
   rw[HCG.out]
   exact⟨⟨_,rfl,fun _=>HR.out.rowQ,fun h=>absurd rfl h⟩,HB.out⟩
  ·have hc2:codeG L ls root=6:=by
    unfold codeG at hc ⊢
    split at hc
    ·exact absurd rfl hc
    ·rename_i h;rw[if_neg h]
   have HCG:=Lib.hid hc2
   clear hc hc2
   go_enter Tryz.func11,Tryz.ntmps11
   go_wp2_with (go_at_call 27;refine HSo.out.mono ?_;rw[HCG.out];rintro e w2 ⟨⟨s,rfl,_⟩,hb⟩)
   go_ret2
   rw[HCG.out]
   exact⟨⟨_,rfl,(fun h=>by cases h),fun _=>rfl⟩,hb⟩
 ·have he:errA L ls root online=errS L ls root online:=by unfold errA;rw[if_neg hs]
  rw[he]
  have HSo:=Lib.hid (solve_no fp B L l m k al cl ls root online _ w h hl hr hn (Lib.hid rfl) hs)
  have HNE:=Lib.hid hs
  have hs2:(errS L ls root online != 0)=true:=by simpa using hs
  clear h hl he hs
  generalize errS L ls root online=cd at *
  go_enter Tryz.func11,Tryz.ntmps11
  go_wp2_with (go_at_call 27;refine HSo.out.mono ?_;rintro e w2 ⟨rfl,hb⟩)
  go_ret2
  exact⟨⟨_,rfl,fun h=>absurd h HNE.out,fun _=>rfl⟩,hb⟩
theorem Groups_any (al:Option Addr) (cl:Nat) (ls:List Lf) (root online:Int) (w:World) (h:IsF w B fp L l m k) (hl:RowL w (.slice al ls.length cl) ls) (hr:I64 root) (hn:ls.length≤1000):
  Calls Tryz.prog 13 #[.pointer (some ⟨fp,0,none⟩),.int .i64 root,.int .i64 online,.slice al ls.length cl] w fun e w'=>(∃v,e= .returned (.tuple #[v,.int .i64 (errA L ls root online)])∧(errA L ls root online=0→∃gm N,v= .map (some gm)∧RtM w' gm N (rate L ls root (shX ls online)) (fun y=>belowB L y root&&decide (0<many L ls y)))∧(¬errA L ls root online=0→v= .map none))∧Below w.heap.size w w':=by
 by_cases hs:errS L ls root online=0
 ·have he:errA L ls root online=codeG L ls root:=by unfold errA;rw[if_pos hs]
  have HSo:=Lib.hid (solve_yes fp B L l m k al cl ls root online _ rfl w h hl hr (Lib.hid hs))
  rw[he]
  clear h hl he hs
  by_cases hc:codeG L ls root=0
  ·have HCG:=Lib.hid hc
   go_enter Tryz.func13,Tryz.ntmps13
   go_wp2_with (go_at_call 27;refine HSo.out.mono ?_;rw[HCG.out];rintro e w2 ⟨⟨s,rfl,hok⟩,hb⟩;obtain⟨cv,gm,rb,N,Z,M,R⟩:=hok rfl;have hz:=cS3 Z;have HM:=Lib.hid M;have HR:=Lib.hid R;have HB:=Lib.hid hb;clear Z M R hb hok hc)
   go_ret2
   rw[HCG.out]
   exact⟨⟨_,rfl,fun _=>⟨gm,N,rfl,HM.out⟩,fun h=>absurd rfl h⟩,HB.out⟩
  ·have hc2:codeG L ls root=6:=by
    unfold codeG at hc ⊢
    split at hc
    ·exact absurd rfl hc
    ·rename_i h;rw[if_neg h]
   have HCG:=Lib.hid hc2
   clear hc hc2
   go_enter Tryz.func13,Tryz.ntmps13
   go_wp2_with (go_at_call 27;refine HSo.out.mono ?_;rw[HCG.out];rintro e w2 ⟨⟨s,rfl,_⟩,hb⟩)
   go_ret2
   rw[HCG.out]
   exact⟨⟨_,rfl,(fun h=>by cases h),fun _=>rfl⟩,hb⟩
 ·have he:errA L ls root online=errS L ls root online:=by unfold errA;rw[if_neg hs]
  rw[he]
  have HSo:=Lib.hid (solve_no fp B L l m k al cl ls root online _ w h hl hr hn (Lib.hid rfl) hs)
  have HNE:=Lib.hid hs
  have hs2:(errS L ls root online != 0)=true:=by simpa using hs
  clear h hl he hs
  generalize errS L ls root online=cd at *
  go_enter Tryz.func13,Tryz.ntmps13
  go_wp2_with (go_at_call 27;refine HSo.out.mono ?_;rintro e w2 ⟨rfl,hb⟩)
  go_ret2
  exact⟨⟨_,rfl,fun h=>absurd h HNE.out,fun _=>rfl⟩,hb⟩
end
end Go.Proofs.YtohifgjeebhijaaGreatDoor
namespace Go.Proofs.YtohifgjeebhijaaGreatDoor
set_option maxRecDepth 100000
set_option maxHeartbeats 4000000
open Go.RowKit Go.Maps
theorem IsF.base {w:World} {B B' fp:Nat} {L:List Gr} {l:List Int} {m k:Int} (h:IsF w B fp L l m k) (hB:B'≤B):IsF w B' fp L l m k:=by
 obtain⟨tp,tg,mp,bl,h1,h2,h3,h4,h5⟩:=h.fo
 exact⟨⟨tp,tg,mp,bl,h1,by omega,by omega,by omega,fun x hx=>Nat.le_trans hB (h5 x hx)⟩,h.tok,h.ids,h.ok⟩
theorem new40 (N:Nat) (hN:N=40) (w:World):
  Calls Tryz.prog 22 #[.int .i64 40] w fun e w'=>(∃fp l,e= .returned (.tuple #[.pointer (some ⟨fp,0,none⟩),.int .i64 0])∧l.length=N∧IsF w' w.heap.size fp [] l 0 0)∧Below w.heap.size w w':=by
 subst hN
 exact NewF_yes 40 w (by omega) (by omega)
theorem rnew40 (N:Nat) (hN:N=40) (w:World):
  Calls Tryz.prog 23 #[.int .i64 40] w fun e w'=>(∃v,e= .returned (.tuple #[v,.int .i64 0])∧DocF w' v (N:Int) 0 [])∧Below w.heap.size w w':=by
 subst hN
 exact rNew_yes 40 w (by omega) (by omega)
theorem resultsF_tct {fn:Func} {p u t:Tmp} (h:fn.results= #[.tmp t,.cell p 29,.tmp u]) (tmps:Array Value) (w:World) (b:Nat) (r m:Int) (v x y:Value) (hy:tmps.getD t undef=y) (hp:tmps.getD p undef= .pointer (some ⟨b,0,none⟩)) (hx:tmps.getD u undef=x) (hw:Blk w b 29 (cellsF r m v)):
  (results fn tmps).run Tryz.prog w= .ok (.tuple #[y,.agg (cellsF r m v),x]) w:=by
 have hp':tmps[p]?.getD undef= .pointer (some ⟨b,0,none⟩):=by simpa using hp
 have hx':tmps[u]?.getD undef=x:=by simpa using hx
 have hy':tmps[t]?.getD undef=y:=by simpa using hy
 simp[results,h,hp',hx',hy',asAddr,run_loadVar_row w b 29 29 _ (0,0) _ hw Tryz.underlying29 rfl Tryz.info29]
theorem St.turnZ {W w w':World} {fp b R:Nat} {L Lr:List Gr} {m k mr:Int} {d t:Nat} {cs:Array Value} (h:St W fp b R w L m k Lr mr) (ht:Turn d w w') (hd:Blk w d t cs) (hne:t∉[106,144,3,118,56]) (hb:b≠d) (hW:W.heap.size≤d):St W fp b R w' L m k Lr mr:=by
 obtain⟨l,hl,hF⟩:=h.F
 obtain⟨a,c,h1,h2⟩:=h.ref
 exact⟨⟨l,hl,hF.turn ht hd (fun e=>hne (by simp at e ⊢;omega))⟩,⟨a,c,h1.turn ht hb,h2.turn ht hd (fun e=>hne (by simp[e]))⟩,h.bel.trans (ht.below hW),h.Wb⟩
theorem made_no (va vl:Value) (root online:Int) (xs:List (Nat×Int×Int)) (ls:List Lf) (w:World) (hx:RowA w va xs) (hl:RowL w vl ls) (hn:40<xs.length∨70<ls.length):
  Calls Tryz.prog 9 #[.agg #[va,.int .i64 root,.int .i64 online,vl]] w fun e w'=>(∃(r m:Int) (a:Option Addr) (n c:Nat),e= .returned (.tuple #[.pointer none,.agg (cellsF r m (.slice a n c)),.bool false]))∧Below w.heap.size w w':=by
 obtain⟨ax,cx,rfl⟩:=hx.sl
 obtain⟨al,cl,rfl⟩:=hl.sl
 clear hx hl
 by_cases h1':40<xs.length
 ·have h1:(40:Int)<(xs.length:Int):=by omega
  clear hn h1'
  have hB:=(Below.refl w.heap.size w).alloc (Nat.le_refl _) (.cells #[.slice ax xs.length cx,.int .i64 root,.int .i64 online,.slice al ls.length cl] 25)
  have hT:=Blk.new w 25 #[.slice ax xs.length cx,.int .i64 root,.int .i64 online,.slice al ls.length cl]
  obtain⟨N,hN⟩: ∃N:Nat,N=40:=⟨40,rfl⟩
  have HN:=Lib.hid hN
  clear hN
  have T1:True:=trivial
  go_enter Tryz.func9,Tryz.ntmps9
  generalize hb1:w.heap.size=b1 at hT
  have HW:=Lib.hid hb1
  go_wp2_with (first
   | (refine wpList_alloc30 rfl rfl ?_;clear T1;have hZ:Blk ((w.alloc (.cells #[.slice ax xs.length cx,.int .i64 root,.int .i64 online,.slice al ls.length cl] 25)).alloc (.cells #[.int .i64 0,.int .i64 0,.slice none 0 0] 29)) (w.alloc (.cells #[.slice ax xs.length cx,.int .i64 root,.int .i64 online,.slice al ls.length cl] 25)).heap.size 29 (cellsF 0 0 (.slice none 0 0)):=Blk.new _ 29 _;have hbz:b1<(w.alloc (.cells #[.slice ax xs.length cx,.int .i64 root,.int .i64 online,.slice al ls.length cl] 25)).heap.size:=hT.lt;replace hT:=hT.alloc (.cells #[.int .i64 0,.int .i64 0,.slice none 0 0] 29);replace hB:=hB.alloc hB.size (.cells #[.int .i64 0,.int .i64 0,.slice none 0 0] 29);generalize (w.alloc (.cells #[.slice ax xs.length cx,.int .i64 root,.int .i64 online,.slice al ls.length cl] 25)).heap.size=bz at *;generalize (w.alloc (.cells #[.slice ax xs.length cx,.int .i64 root,.int .i64 online,.slice al ls.length cl] 25)).alloc (.cells #[.int .i64 0,.int .i64 0,.slice none 0 0] 29)=w1 at *)
   | (go_at_call 22;refine(new40 N HN.out w1).mono ?_;rintro e w2 ⟨⟨fp,l0,rfl,hl0,hF0⟩,hb⟩;have HF:=Lib.hid (hF0.base hB.size);have HL0:=Lib.hid hl0;replace hT:=hT.below hb;replace hZ:=hZ.below hb;replace hB:=hB.trans (hb.mono hB.size);clear hb hF0 hl0)
   | (go_at_call 23;refine(rnew40 N HN.out w2).mono ?_;rintro e w3 ⟨⟨v3,rfl,a3,c3,rfl,hr3⟩,hb⟩;replace HF:=Lib.hid (HF.out.below hb);replace hT:=hT.below hb;replace hZ:=hZ.below hb;replace hB:=hB.trans (hb.mono hB.size);clear hb;have hb:=(Below.refl w3.heap.size w3).alloc (Nat.le_refl _) (.cells #[.int .i64 0,.int .i64 0,.slice none 0 0] 29);have hw3:=hB.size;have hzl:=hZ.lt;have h7:Blk (w3.alloc (.cells #[.int .i64 0,.int .i64 0,.slice none 0 0] 29)) w3.heap.size 29 (cellsF 0 0 (.slice none 0 0)):=Blk.new _ 29 _;replace HF:=Lib.hid (HF.out.below hb);replace hT:=hT.below hb;replace hZ:=hZ.below hb;replace hB:=hB.trans (hb.mono hB.size);have hr4:=hr3.alloc (.cells #[.int .i64 0,.int .i64 0,.slice none 0 0] 29);clear hb hr3)
   | (refine wpList_alloc30 rfl rfl ?_;generalize w3.alloc (.cells #[.int .i64 0,.int .i64 0,.slice none 0 0] 29)=w4 at *)
   | (refine wpList_store30 rfl _ _ rfl w3.heap.size (N:Int) 0 (.slice a3 0 c3) rfl rfl h7 rfl rfl ?_;intro w5 h75 t5;have HF5:=Lib.hid (HF.out.turn t5 h7 (by decide));have hr5:=hr4.turn t5 h7 (by decide);have hT5:=hT.turn t5 (by have:=hT.lt;omega);have hZ5:=hZ.turn t5 (by omega);have hB5:=hB.trans (t5.below hw3);have t0:=hT5.at 0;have t3:=hT5.at 3;simp only[gA,gB,gC] at t0 t3;clear h7 hr4 hT hZ hB t5 HF))
  have hzb:bz≠w3.heap.size:=by omega
  have HZ:=Lib.hid hZ5.drew
  have HB:=Lib.hid (Below.drewS hB5)
  have q0:=cF0 h75.drew
  have q1:=cF1 h75.drew
  have q2:=cF2 h75.drew
  have hby:=h75.drew
  have hzw:w.heap.size≤bz:=by have:=HW.out;omega
  generalize w3.heap.size=b at *
  refine Rd.region (fun X=>X.cell? ⟨b,0,none⟩=some (.int .i64 (N:Int))∧X.cell? ⟨b,1,none⟩=some (.int .i64 0)∧X.cell? ⟨b,2,none⟩=some (.slice a3 0 c3)) 4 [0,1,3] [0,1,2,3] (by kernel_rfl) (by kernel_rfl) (by kernel_rfl) (by kernel_rfl) rfl ⟨q0,q1,q2⟩ ?_
  clear q0 q1 q2 h75 hZ5 hB5
  generalize w5.drew=w15 at *
  refine Rd.seq_float (.agg #[.int .i64 (N:Int),.int .i64 0,.slice a3 0 c3]) (by simp only[gA,gC];rfl) rfl (by rfl) (fun X hX=>by obtain⟨x0,x1,x2⟩:=hX;go_simp) ?_
  simp only[Act.put,sA,sB,sC]
  refine Rd.seq_float (.pointer none) (by simp only[gA,gB,gC];rfl) rfl (by rfl) (fun X _=>by go_simp) ?_
  simp only[Act.put,sA,sB,sC]
  refine Rd.seq_move (by simp only[gA,gB,gC];rfl) rfl (by rfl) (fun K hK=>?_)
  refine wp_store30 _ _ rfl bz (N:Int) 0 (.slice a3 0 c3) rfl rfl HZ.out rfl rfl (fun w20 hZ20 t20=>?_)
  have hby2:=hby.turn t20 (Ne.symm hzb)
  refine hK _ _ (fun _=>⟨cF0 hby2,cF1 hby2,cF2 hby2⟩) ?_
  clear hK K
  refine Rd.seq_float (.bool false) (by simp only[gA,gB,gC];rfl) rfl (by rfl) (fun X _=>by go_simp) ?_
  simp only[Act.put,sA,sB,sC]
  refine Rd.seq_end ?_
  go_wp2_with fail
  refine bodyPost_ret (resultsF_tct rfl _ w20 bz (N:Int) 0 (.slice a3 0 c3) (.bool false) (.pointer none) rfl rfl rfl hZ20) rfl ?_
  rw[←HW.out]
  exact⟨⟨_,_,_,_,_,rfl⟩,HB.out.trans (t20.below hzw)⟩
 ·have h1: ¬(40:Int)<(xs.length:Int):=by omega
  have h2:(70:Int)<(ls.length:Int):=by omega
  clear hn h1'
  have hB:=(Below.refl w.heap.size w).alloc (Nat.le_refl _) (.cells #[.slice ax xs.length cx,.int .i64 root,.int .i64 online,.slice al ls.length cl] 25)
  have hT:=Blk.new w 25 #[.slice ax xs.length cx,.int .i64 root,.int .i64 online,.slice al ls.length cl]
  obtain⟨N,hN⟩: ∃N:Nat,N=40:=⟨40,rfl⟩
  have HN:=Lib.hid hN
  clear hN
  have T1:True:=trivial
  go_enter Tryz.func9,Tryz.ntmps9
  generalize hb1:w.heap.size=b1 at hT
  have HW:=Lib.hid hb1
  go_wp2_with (first
   | (refine wpList_alloc30 rfl rfl ?_;clear T1;have hZ:Blk ((w.alloc (.cells #[.slice ax xs.length cx,.int .i64 root,.int .i64 online,.slice al ls.length cl] 25)).alloc (.cells #[.int .i64 0,.int .i64 0,.slice none 0 0] 29)) (w.alloc (.cells #[.slice ax xs.length cx,.int .i64 root,.int .i64 online,.slice al ls.length cl] 25)).heap.size 29 (cellsF 0 0 (.slice none 0 0)):=Blk.new _ 29 _;have hbz:b1<(w.alloc (.cells #[.slice ax xs.length cx,.int .i64 root,.int .i64 online,.slice al ls.length cl] 25)).heap.size:=hT.lt;replace hT:=hT.alloc (.cells #[.int .i64 0,.int .i64 0,.slice none 0 0] 29);replace hB:=hB.alloc hB.size (.cells #[.int .i64 0,.int .i64 0,.slice none 0 0] 29);generalize (w.alloc (.cells #[.slice ax xs.length cx,.int .i64 root,.int .i64 online,.slice al ls.length cl] 25)).heap.size=bz at *;generalize (w.alloc (.cells #[.slice ax xs.length cx,.int .i64 root,.int .i64 online,.slice al ls.length cl] 25)).alloc (.cells #[.int .i64 0,.int .i64 0,.slice none 0 0] 29)=w1 at *)
   | (go_at_call 22;refine(new40 N HN.out w1).mono ?_;rintro e w2 ⟨⟨fp,l0,rfl,hl0,hF0⟩,hb⟩;have HF:=Lib.hid (hF0.base hB.size);have HL0:=Lib.hid hl0;replace hT:=hT.below hb;replace hZ:=hZ.below hb;replace hB:=hB.trans (hb.mono hB.size);clear hb hF0 hl0)
   | (go_at_call 23;refine(rnew40 N HN.out w2).mono ?_;rintro e w3 ⟨⟨v3,rfl,a3,c3,rfl,hr3⟩,hb⟩;replace HF:=Lib.hid (HF.out.below hb);replace hT:=hT.below hb;replace hZ:=hZ.below hb;replace hB:=hB.trans (hb.mono hB.size);clear hb;have hb:=(Below.refl w3.heap.size w3).alloc (Nat.le_refl _) (.cells #[.int .i64 0,.int .i64 0,.slice none 0 0] 29);have hw3:=hB.size;have hzl:=hZ.lt;have h7:Blk (w3.alloc (.cells #[.int .i64 0,.int .i64 0,.slice none 0 0] 29)) w3.heap.size 29 (cellsF 0 0 (.slice none 0 0)):=Blk.new _ 29 _;replace HF:=Lib.hid (HF.out.below hb);replace hT:=hT.below hb;replace hZ:=hZ.below hb;replace hB:=hB.trans (hb.mono hB.size);have hr4:=hr3.alloc (.cells #[.int .i64 0,.int .i64 0,.slice none 0 0] 29);clear hb hr3)
   | (refine wpList_alloc30 rfl rfl ?_;generalize w3.alloc (.cells #[.int .i64 0,.int .i64 0,.slice none 0 0] 29)=w4 at *)
   | (refine wpList_store30 rfl _ _ rfl w3.heap.size (N:Int) 0 (.slice a3 0 c3) rfl rfl h7 rfl rfl ?_;intro w5 h75 t5;have HF5:=Lib.hid (HF.out.turn t5 h7 (by decide));have hr5:=hr4.turn t5 h7 (by decide);have hT5:=hT.turn t5 (by have:=hT.lt;omega);have hZ5:=hZ.turn t5 (by omega);have hB5:=hB.trans (t5.below hw3);have t0:=hT5.at 0;have t3:=hT5.at 3;simp only[gA,gB,gC] at t0 t3;clear h7 hr4 hT hZ hB t5 HF))
  have hzb:bz≠w3.heap.size:=by omega
  have HZ:=Lib.hid hZ5.drew
  have HB:=Lib.hid (Below.drewS hB5)
  have q0:=cF0 h75.drew
  have q1:=cF1 h75.drew
  have q2:=cF2 h75.drew
  have hby:=h75.drew
  have hzw:w.heap.size≤bz:=by have:=HW.out;omega
  generalize w3.heap.size=b at *
  refine Rd.region (fun X=>X.cell? ⟨b,0,none⟩=some (.int .i64 (N:Int))∧X.cell? ⟨b,1,none⟩=some (.int .i64 0)∧X.cell? ⟨b,2,none⟩=some (.slice a3 0 c3)) 4 [0,1,3] [0,1,2,3] (by kernel_rfl) (by kernel_rfl) (by kernel_rfl) (by kernel_rfl) rfl ⟨q0,q1,q2⟩ ?_
  clear q0 q1 q2 h75 hZ5 hB5
  generalize w5.drew=w15 at *
  refine Rd.seq_float (.agg #[.int .i64 (N:Int),.int .i64 0,.slice a3 0 c3]) (by simp only[gA,gC];rfl) rfl (by rfl) (fun X hX=>by obtain⟨x0,x1,x2⟩:=hX;go_simp) ?_
  simp only[Act.put,sA,sB,sC]
  refine Rd.seq_float (.pointer none) (by simp only[gA,gB,gC];rfl) rfl (by rfl) (fun X _=>by go_simp) ?_
  simp only[Act.put,sA,sB,sC]
  refine Rd.seq_move (by simp only[gA,gB,gC];rfl) rfl (by rfl) (fun K hK=>?_)
  refine wp_store30 _ _ rfl bz (N:Int) 0 (.slice a3 0 c3) rfl rfl HZ.out rfl rfl (fun w20 hZ20 t20=>?_)
  have hby2:=hby.turn t20 (Ne.symm hzb)
  refine hK _ _ (fun _=>⟨cF0 hby2,cF1 hby2,cF2 hby2⟩) ?_
  clear hK K
  refine Rd.seq_float (.bool false) (by simp only[gA,gB,gC];rfl) rfl (by rfl) (fun X _=>by go_simp) ?_
  simp only[Act.put,sA,sB,sC]
  refine Rd.seq_end ?_
  go_wp2_with fail
  refine bodyPost_ret (resultsF_tct rfl _ w20 bz (N:Int) 0 (.slice a3 0 c3) (.bool false) (.pointer none) rfl rfl rfl hZ20) rfl ?_
  rw[←HW.out]
  exact⟨⟨_,_,_,_,_,rfl⟩,HB.out.trans (t20.below hzw)⟩
theorem made_yes (va vl:Value) (root online:Int) (xs:List (Nat×Int×Int)) (ls:List Lf) (w:World) (hx:RowA w va xs) (hl:RowL w vl ls) (h40:xs.length≤40) (h70:ls.length≤70):
  Calls Tryz.prog 9 #[.agg #[va,.int .i64 root,.int .i64 online,vl]] w fun e w'=>(∃fp v L m k,e= .returned (.tuple #[.pointer (some ⟨fp,0,none⟩),v,.bool true])∧k≤40∧DocF w' v 40 m L∧∃l,l.length=40∧IsF w' w.heap.size fp L l m k)∧Below w.heap.size w w':=by
 obtain⟨ax,cx,rfl⟩:=hx.sl
 obtain⟨al,cl,rfl⟩:=hl.sl
 have HX:=Lib.hid hx
 have h1: ¬(40:Int)<(xs.length:Int):=by omega
 have h2: ¬(70:Int)<(ls.length:Int):=by omega
 clear hx hl
 have hB:=(Below.refl w.heap.size w).alloc (Nat.le_refl _) (.cells #[.slice ax xs.length cx,.int .i64 root,.int .i64 online,.slice al ls.length cl] 25)
 have hT:=Blk.new w 25 #[.slice ax xs.length cx,.int .i64 root,.int .i64 online,.slice al ls.length cl]
 obtain⟨N,hN⟩: ∃N:Nat,N=40:=⟨40,rfl⟩
 have HN:=Lib.hid hN
 clear hN
 have T1:True:=trivial
 go_enter Tryz.func9,Tryz.ntmps9
 generalize hb1:w.heap.size=b1 at hT
 have HW:=Lib.hid hb1
 go_wp2_with (first
  | (refine wpList_alloc30 rfl rfl ?_;clear T1;have hZ:Blk ((w.alloc (.cells #[.slice ax xs.length cx,.int .i64 root,.int .i64 online,.slice al ls.length cl] 25)).alloc (.cells #[.int .i64 0,.int .i64 0,.slice none 0 0] 29)) (w.alloc (.cells #[.slice ax xs.length cx,.int .i64 root,.int .i64 online,.slice al ls.length cl] 25)).heap.size 29 (cellsF 0 0 (.slice none 0 0)):=Blk.new _ 29 _;have hbz:b1<(w.alloc (.cells #[.slice ax xs.length cx,.int .i64 root,.int .i64 online,.slice al ls.length cl] 25)).heap.size:=hT.lt;replace hT:=hT.alloc (.cells #[.int .i64 0,.int .i64 0,.slice none 0 0] 29);replace hB:=hB.alloc hB.size (.cells #[.int .i64 0,.int .i64 0,.slice none 0 0] 29);generalize (w.alloc (.cells #[.slice ax xs.length cx,.int .i64 root,.int .i64 online,.slice al ls.length cl] 25)).heap.size=bz at *;generalize (w.alloc (.cells #[.slice ax xs.length cx,.int .i64 root,.int .i64 online,.slice al ls.length cl] 25)).alloc (.cells #[.int .i64 0,.int .i64 0,.slice none 0 0] 29)=w1 at *)
  | (go_at_call 22;refine(new40 N HN.out w1).mono ?_;rintro e w2 ⟨⟨fp,l0,rfl,hl0,hF0⟩,hb⟩;have HF:=Lib.hid (hF0.base hB.size);have HL0:=Lib.hid hl0;replace hT:=hT.below hb;replace hZ:=hZ.below hb;replace hB:=hB.trans (hb.mono hB.size);clear hb hF0 hl0)
  | (go_at_call 23;refine(rnew40 N HN.out w2).mono ?_;rintro e w3 ⟨⟨v3,rfl,a3,c3,rfl,hr3⟩,hb⟩;replace HF:=Lib.hid (HF.out.below hb);replace hT:=hT.below hb;replace hZ:=hZ.below hb;replace hB:=hB.trans (hb.mono hB.size);clear hb;have hb:=(Below.refl w3.heap.size w3).alloc (Nat.le_refl _) (.cells #[.int .i64 0,.int .i64 0,.slice none 0 0] 29);have hw3:=hB.size;have hzl:=hZ.lt;have h7:Blk (w3.alloc (.cells #[.int .i64 0,.int .i64 0,.slice none 0 0] 29)) w3.heap.size 29 (cellsF 0 0 (.slice none 0 0)):=Blk.new _ 29 _;replace HF:=Lib.hid (HF.out.below hb);replace hT:=hT.below hb;replace hZ:=hZ.below hb;replace hB:=hB.trans (hb.mono hB.size);have hr4:=hr3.alloc (.cells #[.int .i64 0,.int .i64 0,.slice none 0 0] 29);clear hb hr3)
  | (refine wpList_alloc30 rfl rfl ?_;generalize w3.alloc (.cells #[.int .i64 0,.int .i64 0,.slice none 0 0] 29)=w4 at *)
  | (refine wpList_store30 rfl _ _ rfl w3.heap.size (N:Int) 0 (.slice a3 0 c3) rfl rfl h7 rfl rfl ?_;intro w5 h75 t5;have HF5:=Lib.hid (HF.out.turn t5 h7 (by decide));have hr5:=hr4.turn t5 h7 (by decide);have hT5:=hT.turn t5 (by have:=hT.lt;omega);have hZ5:=hZ.turn t5 (by omega);have hB5:=hB.trans (t5.below hw3);have t0:=hT5.at 0;have t3:=hT5.at 3;simp only[gA,gB,gC] at t0 t3;clear h7 hr4 hT hZ hB t5 HF))
 have HS:Hid (St w fp w3.heap.size N w5 [] 0 ((0:Nat):Int) [] 0):=Lib.hid ⟨⟨l0,HL0.out,HF5.out⟩,⟨a3,c3,h75,hr5⟩,hB5,hw3⟩
 have HZ:=Lib.hid hZ5
 have hbz3:bz<w3.heap.size:=by omega
 clear HF5 h75 hr5 hB5 HL0 hT5 hZ5 t0 t3
 generalize w3.heap.size=b at *
 go_loopw [41] (fun i wr=>∃(kk:Nat) (L:List Gr) (m:Int),kk≤xs.length∧i= .int .i64 kk∧Hid (St w fp b N wr L m (kk:Int) L m)∧Hid (Blk wr bz 29 (cellsF 0 0 (.slice none 0 0)))) (fun i _=>xs.length - (intOf i).toNat)
 case atStart=>exact⟨0,[],0,by omega,rfl,HS,HZ⟩
 case round=>
  clear HS HZ
  obtain⟨kk,L,m,hkk,rfl,HS,HZ⟩:=hrel
  by_cases hlt:kk<xs.length
  ·skip
   obtain⟨bx,off,rfl,hx0,hx1,hx2,hI1,hI2⟩:=(HS.out.row HX.out).at hlt
   generalize xs.getD kk a0=x at *
   obtain⟨kd,av,nv⟩:=x
   simp only[] at hx0 hx1 hx2 hI1 hI2
   have hA:=Blk.new wr 70 #[.int .u8 0,.int .i64 0,.int .i64 0]
   have hb0:=HS.out.lt
   go_wp2_with (first | (refine wpList_alloc34 rfl rfl ?_;replace HS:=Lib.hid (HS.out.alloc (.cells #[.int .u8 0,.int .i64 0,.int .i64 0] 70));replace HZ:=Lib.hid (HZ.out.alloc (.cells #[.int .u8 0,.int .i64 0,.int .i64 0] 70));generalize wr.alloc (.cells #[.int .u8 0,.int .i64 0,.int .i64 0] 70)=w6 at *) | (refine wpList_store34 rfl _ _ rfl wr.heap.size kd av nv rfl rfl hA rfl ?_;intro w7 hA7 t7;replace HS:=Lib.hid (HS.out.turn t7 hA (by decide) hb0);replace HZ:=Lib.hid (HZ.out.turn t7 (by omega));clear hA t7 hx0 hx1 hx2;obtain⟨ad,cd,hbx,hdd⟩:=HS.out.ref) | (refine wpList_load30 rfl _ rfl b _ _ _ rfl hbx ?_) | (refine wpList_load34 rfl _ rfl wr.heap.size kd av nv rfl hA7 ?_))
   obtain⟨l7,hl7,hF7⟩:=HS.out.F
   have hk40:(kk:Int)<1000:=by omega
   refine(do_any fp w.heap.size (N) L l7 m (kk:Int) (kd:Int) av nv w7 _ hF7 ⟨ad,cd,rfl,hdd⟩ hk40 hI1 hI2 HS.out.leW hl7).mono ?_
   rintro e w9 ⟨⟨v9,rfl,a9,c9,rfl,hr9⟩,⟨l9,hl9,hF9⟩,hw9⟩
   rw[hl7] at hF9 hr9
   rw[hl7]
   replace HS:=Lib.hid (HS.out.act ⟨l9,hl9.trans hl7,hF9⟩ hw9 (by decide) (by decide))
   replace HZ:=Lib.hid (HZ.out.wr hw9 (by decide))
   clear hbx hdd hA7 hw9 hF7 hF9 hl9 hl7
   generalize actL L (N) m (kd:Int) av nv=L2 at *
   generalize actM L (N) m (kd:Int) av nv=m2 at *
   obtain⟨ad,cd,hbx,_⟩:=HS.out.ref
   go_wp2_with (first | (refine wpList_store30 rfl _ _ rfl b (N:Int) m2 (.slice a9 L2.length c9) rfl rfl hbx rfl rfl ?_;intro w12 hb12 t12;replace HS:=Lib.hid (HS.out.set t12 hr9 hb12);replace HZ:=Lib.hid (HZ.out.turn t12 (by omega));clear t12 hbx hr9 hb12))
   go_round
   case rel=>exact⟨kk+1,L2,m2,by omega,by go_num,HS,HZ⟩
   case measure=>simp[intOf];omega
  ·obtain rfl:kk=xs.length:=by omega
   obtain⟨ad,cd,hbx,hdd⟩:=HS.out.ref
   go_wp2_with fail
   have HS2:=Lib.hid (HS.out.below ((Same.drew wr).below _))
   have HZ2:=Lib.hid HZ.out.drew
   have q0:=cF0 hbx.drew
   have q1:=cF1 hbx.drew
   have q2:=cF2 hbx.drew
   have hbzb:bz<wr.heap.size:=HZ.out.lt
   refine Rd.region (fun X=>X.cell? ⟨b,0,none⟩=some (.int .i64 (N:Int))∧X.cell? ⟨b,1,none⟩=some (.int .i64 m)∧X.cell? ⟨b,2,none⟩=some (.slice ad L.length cd)) 5 [0,1,2,4] [0,1,2,3,4] (by kernel_rfl) (by kernel_rfl) (by kernel_rfl) (by kernel_rfl) rfl ⟨q0,q1,q2⟩ ?_
   have hby:=hbx.drew
   have hdy:=hdd.below ((Same.drew wr).below _)
   clear hbx q0 q1 q2 HS HZ hdd
   have HZ:=HZ2
   clear HZ2
   generalize wr.drew=w15 at *
   refine Rd.seq_float (.pointer (some ⟨fp,0,none⟩)) (by simp only[gA,gC];rfl) rfl (by rfl) (fun X _=>by go_simp) ?_
   simp only[Act.put,sA,sB,sC]
   refine Rd.seq_float (.agg #[.int .i64 (N:Int),.int .i64 m,.slice ad L.length cd]) (by simp only[gA,gB,gC];rfl) rfl (by rfl) (fun X hX=>by obtain⟨x0,x1,x2⟩:=hX;go_simp) ?_
   simp only[Act.put,sA,sB,sC]
   refine Rd.seq_float (.pointer (some ⟨fp,0,none⟩)) (by simp only[gA,gB,gC];rfl) rfl (by rfl) (fun X _=>by go_simp) ?_
   simp only[Act.put,sA,sB,sC]
   refine Rd.seq_move (by simp only[gA,gB,gC];rfl) rfl (by rfl) (fun K hK=>?_)
   refine wp_store30 _ _ rfl bz (N:Int) m (.slice ad L.length cd) rfl rfl HZ.out rfl rfl (fun w20 hZ20 t20=>?_)
   have hby2:=hby.turn t20 (by omega)
   refine hK _ _ (fun _=>⟨cF0 hby2,cF1 hby2,cF2 hby2⟩) ?_
   clear hK K
   refine Rd.seq_float (.bool true) (by simp only[gA,gB,gC];rfl) rfl (by rfl) (fun X _=>by go_simp) ?_
   simp only[Act.put,sA,sB,sC]
   refine Rd.seq_end ?_
   go_wp2_with fail
   refine bodyPost_ret (resultsF_tct rfl _ w20 bz (N:Int) m (.slice ad L.length cd) (.bool true) (.pointer (some ⟨fp,0,none⟩)) rfl rfl rfl hZ20) rfl ?_
   have e40:(N:Int)=40:=by have:=HN.out;omega
   have hS:=HS2.out.turnZ t20 HZ.out (by decide) (by omega) (by have:=HW.out;omega)
   obtain⟨l9,hl9,hF9⟩:=hS.F
   rw[←HW.out]
   exact⟨⟨fp,_,L,m,(xs.length:Int),rfl,by omega,⟨ad,cd,by rw[e40],hdy.turn t20 HZ.out (by decide)⟩,l9,hl9.trans HN.out,hF9⟩,hS.bel⟩
end Go.Proofs.YtohifgjeebhijaaGreatDoor
namespace Go.Proofs.YtohifgjeebhijaaGreatDoor
set_option maxRecDepth 100000
set_option maxHeartbeats 4000000
open Go.RowKit Go.Maps
def encP (ls:List Lf):List Value:=ls.flatMap fun x=>[.int .i64 x.1,.int .i64 x.2]
theorem encP_cons (x:Lf) (r:List Lf):encP (x::r)=[.int .i64 x.1,.int .i64 x.2]++encP r:=rfl
theorem encP_app (a b:List Lf):encP (a++b)=encP a++encP b:=by simp[encP]
theorem encP_at: ∀ {ls:List Lf} {j:Nat},j<ls.length→(encP ls)[j*2]? =some (.int .i64 (lf ls j).1)∧(encP ls)[j*2+1]? =some (.int .i64 (lf ls j).2)
 | [],_,h=>by simp at h
 | x::r,0,_=>⟨rfl,rfl⟩
 | x::r,j+1,h=>by
  have ih:=encP_at (ls:=r) (j:=j) (by simpa using h)
  have e1:(j+1)*2=j*2+2:=by omega
  have e2:(j+1)*2+1=j*2+1+2:=by omega
  rw[e2,e1,encP_cons]
  exact ih
def RowP (w:World) (B:Nat) (v:Value) (ls:List Lf):Prop:=w.ownsRow B 75 2 v ls.length (encP ls)
theorem Tryz.infoP:(Tryz.prog.info? 75).map (fun i=>(i.zero,i.size,i.bytes))=some (some (.agg #[.int .i64 0,.int .i64 0]),2,16):=by kernel_rfl
section
variable {w w':World} {B:Nat} {v:Value} {ls:List Lf}
theorem RowP.nil (w:World) (B:Nat):RowP w B (.slice none 0 0) []:=World.ownsRow_nil _ _ _ _
theorem RowP.lt (h:RowP w B v ls): ∀j,v.ownBlock=some j→B≤j∧j<w.heap.size:=by
 intro j e
 rcases h.2 with ⟨rfl,_⟩ | ⟨g,cap,cur,rfl,hb,hg,_⟩
 ·cases e
 ·cases e
  exact⟨hb,(Array.getElem?_eq_some_iff.1 hg).1⟩
theorem RowP.below (h:RowP w B v ls) (hb:Below w.heap.size w w'):RowP w' B v ls:=by
 refine⟨h.1,?_⟩
 rcases h.2 with ⟨rfl,h1⟩ | ⟨g,cap,cur,rfl,hbg,hg,h3⟩
 ·exact .inl ⟨rfl,h1⟩
 ·exact .inr ⟨g,cap,cur,rfl,hbg,by rw[hb.block g (Array.getElem?_eq_some_iff.1 hg).1];exact hg,h3⟩
theorem RowP.turn {d t:Nat} {cs:Array Value} (h:RowP w B v ls) (ht:Turn d w w') (hd:Blk w d t cs) (hne:t≠75):RowP w' B v ls:=by
 refine⟨h.1,?_⟩
 rcases h.2 with ⟨rfl,h1⟩ | ⟨g,cap,cur,rfl,hbg,hg,h3⟩
 ·exact .inl ⟨rfl,h1⟩
 ·refine .inr ⟨g,cap,cur,rfl,hbg,?_,h3⟩
  rw[ht.block g ?_]
  ·exact hg
  ·rintro rfl
   unfold Blk at hd
   rw[hg] at hd
   injection hd with h5
   injection h5 with _ h6 _
   exact hne h6.symm
theorem RowP.rowL (h:RowP w B v ls) (hi: ∀j,I64 (lf ls j).1∧I64 (lf ls j).2):RowL w v ls:=by
 rcases h.2 with ⟨rfl,h1⟩ | ⟨g,cap,cur,rfl,hbg,hg,h3,h4,h5,htake⟩
 ·refine⟨none,0,by rw[h1],fun hne=>absurd (List.eq_nil_of_length_eq_zero h1) hne,hi⟩
 ·refine⟨_,cap,rfl,fun _=>⟨g,0,rfl,(Array.getElem?_eq_some_iff.1 hg).1,fun j hj=>?_⟩,hi⟩
  have hc: ∀i u,(encP ls)[i]? =some u→w.cell? ⟨g,i,none⟩=some u:=by
   intro i u hu
   rw[cell_of_row w g i _ 75 (0,0) hg]
   rw[←htake,List.getElem?_take] at hu
   split at hu
   ·simpa using hu
   ·cases hu
  rw[Nat.zero_add]
  exact⟨hc _ _ (encP_at hj).1,hc _ _ (encP_at hj).2⟩
end
section
variable {ops:Array Oper} {rest:List Oper} {o:Oper} {a:Act} {w:World} {Q:Exit→Act→World→Prop}
theorem wpList_pushP (hg:o.guard=none) (s x:Operand) (ho:o.op= .call { callee:=.builtin .append,args:= #[s,x],argTypes:= #[37,37] }) (B:Nat) (v:Value) (ls:List Lf) (e:Nat) (y:Lf) (hs:a.eval s=v) (hx:a.eval x= .slice (some ⟨e,0,none⟩) 1 1)
  (hA:w.heap[e]? =some (.cells #[.int .i64 y.1,.int .i64 y.2] 75 (0,0))) (hB:B≤w.heap.size) (h1:RowP w B v ls) (hl:ls.length+1≤1000) (h: ∀v' w',RowP w' B v' (ls++[y])→w.grownBy w' v.ownBlock→wpList Tryz.prog ops Q rest (a.put o.dst v') w'):wpList Tryz.prog ops Q (o::rest) a w:=by
 obtain⟨i0,hi,hz0,hz1,hz2⟩:=info_parts Tryz.infoP
 refine wpList_plain hg fun K hK=>?_
 have hnews: ∀j u,(encP [y])[j]? =some u→w.cell? ((⟨e,0,none⟩:Addr).add j)=some u:=by
  intro j u hu
  rw[Addr.add_lit,cell_of_row _ e _ _ 75 (0,0) hA,Nat.zero_add]
  have e9:encP [y]=[.int .i64 y.1,.int .i64 y.2]:=rfl
  rw[e9] at hu
  simpa using hu
 obtain⟨v',w',hr,ho',hgr,_⟩:=run_append_own (P:=Tryz.prog) w B 37 o.type 75 i0 _ 2 16 Tryz.underlying37 hi hz0 hz1 hz2 rfl (by decide) v ls.length _ h1 ⟨e,0,none⟩ 1 1 (encP [y]) rfl hnews (by intro u hu;simp[encP] at hu;rcases hu with rfl | rfl<;>rfl) (by unfold maxLen;omega) (by omega) hB
 have h2:RowP w' B v' (ls++[y]):=by
  unfold RowP
  rw[List.length_append,encP_app]
  exact ho'
 unfold Oper.wp execOp
 simp only[ho,resolve,invoke,builtin,Sem.run_bind,Sem.run_pure,Result.andThen_ok,List.map_toArray,List.map_cons,List.map_nil,hs,hx,hr]
 exact hK _ _ (h v' w' h2 hgr)
theorem run_alloc64 (w:World):(Instr.alloc 64 true (.tuple #[])).run Tryz.prog w= .ok (.pointer (some ⟨w.heap.size,0,none⟩)) (w.alloc (.cells #[.int .i64 0,.int .i64 0] 64)):=by kernel_rfl
theorem Tryz.info64:(Tryz.prog.info? 64).map (·.size)=some 2:=by kernel_rfl
theorem wpList_alloc64 (hg:o.guard=none) (ho:o.op= .alloc 64) (h:wpList Tryz.prog ops Q rest (a.put o.dst (.pointer (some ⟨w.heap.size,0,none⟩))) (w.alloc (.cells #[.int .i64 0,.int .i64 0] 64))):wpList Tryz.prog ops Q (o::rest) a w:=
 wpList_plain hg fun _ hK=>by
  unfold Oper.wp execOp
  rw[ho]
  simp only[run_alloc64,Sem.run_bind,Sem.run_pure,Result.andThen_ok]
  exact hK _ _ h
theorem wpList_store64 (hg:o.guard=none) (x y:Operand) (ho:o.op= .store 64 x y) (b:Nat) (p q:Int) {cs:Array Value} (hx:a.eval x= .pointer (some ⟨b,0,none⟩)) (hy:a.eval y= .agg (cellsP p q)) (hw:Blk w b 64 cs) (hc:cs.size=2)
  (h: ∀w',Blk w' b 64 (cellsP p q)→Turn b w w'→wpList Tryz.prog ops Q rest (a.put o.dst undef) w'):wpList Tryz.prog ops Q (o::rest) a w:=
 wpList_plain hg fun _ hK=>wp_store_row 64 x y ho b _ hx hy 64 _ hw Tryz.info64 hc (by simp[Value.oneCell',cellsP]) (hK _ _ (h _ (setRow_heap w b _ _ 64 _ hw) (Turn.setRow w b _)))
end
theorem Reals_any (v:Value) (ls:List Lf) (w:World) (hl:RowL w v ls) (hn:ls.length≤900):
  Calls Tryz.prog 12 #[v] w fun e w'=>(∃u,e= .returned u∧RowL w' u ls)∧Below w.heap.size w w':=by
 obtain⟨al,cl,rfl⟩:=hl.sl
 have HL:=Lib.hid hl
 clear hl
 go_enter Tryz.func12,Tryz.ntmps12
 go_wp2_with fail
 go_loopw [8,3] (fun i v wr=>∃j:Nat,j≤ls.length∧i= .int .i64 (j:Int)∧Hid (RowP wr w.heap.size v (ls.take j))∧Hid (Below w.heap.size w wr)) (fun i _ _=>ls.length - (intOf i).toNat)
 case atStart=>exact⟨0,Nat.zero_le _,rfl,Lib.hid (RowP.nil _ _),Lib.hid (Below.refl _ _)⟩
 case round=>
  obtain⟨j,hj,rfl,HR,HB⟩:=hrel
  by_cases hlt:j<ls.length
  ·obtain⟨bl,off,rfl,hx0,hx1,_,_⟩:=(HL.out.below HB.out).at hlt
   have HT:Hid (ls.take (j+1)=ls.take j++[lf ls j]):=Lib.hid (by
    rw[List.take_add_one,List.getElem?_eq_getElem hlt]
    simp[lf,List.getD_eq_getElem?_getD,List.getElem?_eq_getElem hlt])
   have htl:(ls.take j).length≤900:=by simp;omega
   generalize lf ls j=x at *
   generalize ls.take j=ts at *
   obtain⟨xg,xw⟩:=x
   dsimp only at hx0 hx1
   have hA:=Blk.new wr 64 #[.int .i64 0,.int .i64 0]
   have hw0:=HB.out.size
   replace HB:=Lib.hid (Below.allocS HB.out (.cells #[.int .i64 0,.int .i64 0] 64))
   replace HR:=Lib.hid (HR.out.below ((Below.refl _ _).alloc (Nat.le_refl _) (.cells #[.int .i64 0,.int .i64 0] 64)))
   go_wp2_with (first
    | (refine wpList_alloc64 rfl rfl ?_;generalize wr.alloc (.cells #[.int .i64 0,.int .i64 0] 64)=w6 at *)
    | (refine wpList_store64 rfl _ _ rfl wr.heap.size xg xw rfl rfl hA rfl ?_;intro w7 hA7 t7;replace HB:=Lib.hid (HB.out.trans (t7.below hw0));replace HR:=Lib.hid (HR.out.turn t7 hA (by decide));have p0:w7.cell? ⟨wr.heap.size,0,none⟩=some (.int .i64 xg):=(by rw[hA7.at];rfl);have p1:w7.cell? ⟨wr.heap.size,1,none⟩=some (.int .i64 xw):=(by rw[hA7.at];rfl);clear hA hx0 hx1 t7)
    | (at_builtin;refine wpList_pushP rfl _ _ rfl w.heap.size u3 ts w7.heap.size (xg,xw) rfl rfl (heap_alloc_new w7 _) (Below.allocS HB.out _).size (HR.out.below ((Below.refl _ _).alloc (Nat.le_refl _) _)) (by omega) ?_;intro v9 w9 h3 h4;have HB9:=Lib.hid ((Below.allocS HB.out (.cells #[.int .i64 xg,.int .i64 xw] 75)).trans ((Below.refl w.heap.size _).grown h4 (Below.allocS HB.out _).size (fun q e=>(HR.out.lt q e).1)));have HR9:=Lib.hid h3;clear h3 h4))
   go_round
   case rel=>exact⟨j+1,by omega,by go_num,by rw[HT.out];exact HR9,HB9⟩
   case measure=>simp[intOf];omega
  ·have ej:j=ls.length:=by omega
   subst ej
   rw[List.take_length] at HR
   go_wp2_with fail
   go_ret
   exact⟨⟨_,rfl,HR.out.rowL fun j=>by obtain⟨_,_,_,_,h5⟩:=HL.out;exact h5 j⟩,HB.out⟩
end Go.Proofs.YtohifgjeebhijaaGreatDoor
namespace Go.Proofs.YtohifgjeebhijaaGreatDoor
set_option maxRecDepth 100000
set_option maxHeartbeats 4000000
open Go.RowKit Go.Maps Go.Rq
abbrev aL:List Gr:=[⟨1,-1,1,0,0⟩]
abbrev aS:List Lf:=[(1,1),(1,1),(1,8)]
theorem aw_list:rlist aL aS 1 2=[rat 1 2,rat 1 2,1]:=by decide+kernel
theorem aw_err:errA aL aS 1 2=0:=by decide+kernel
theorem aw_row (w:World):RowL (w.alloc (.cells #[.int .i64 1,.int .i64 1,.int .i64 1,.int .i64 1,.int .i64 1,.int .i64 8] 75)) (.slice (some ⟨w.heap.size,0,none⟩) 3 3) aS:=by
 have h:=heap_alloc_new w (.cells #[.int .i64 1,.int .i64 1,.int .i64 1,.int .i64 1,.int .i64 1,.int .i64 8] 75)
 refine⟨_,3,rfl,fun _=>⟨w.heap.size,0,rfl,(Array.getElem?_eq_some_iff.1 h).1,fun j hj=>?_⟩,fun j=>?_⟩
 ·match j,hj with
  | 0,_=>exact⟨(cell_of_row _ _ _ _ 75 (0,0) h).trans rfl,(cell_of_row _ _ _ _ 75 (0,0) h).trans rfl⟩
  | 1,_=>exact⟨(cell_of_row _ _ _ _ 75 (0,0) h).trans rfl,(cell_of_row _ _ _ _ 75 (0,0) h).trans rfl⟩
  | 2,_=>exact⟨(cell_of_row _ _ _ _ 75 (0,0) h).trans rfl,(cell_of_row _ _ _ _ 75 (0,0) h).trans rfl⟩
  | j+3,hj=>exact absurd hj (by show ¬j+3<3;omega)
 ·match j with
  | 0=>exact⟨by unfold I64;decide,by unfold I64;decide⟩
  | 1=>exact⟨by unfold I64;decide,by unfold I64;decide⟩
  | 2=>exact⟨by unfold I64;decide,by unfold I64;decide⟩
  | j+3=>exact⟨by unfold I64;simp[lf],by unfold I64;simp[lf]⟩
theorem awake9 (w:World):Calls Tryz.prog 10 #[] w fun e w'=>e= .returned (.bool true)∧Below w.heap.size w w':=by
 have H0:=Lib.hid (NewF_yes 3 w (by omega) (by omega))
 have E1:Hid (rootC [] 3=0∧rootN [] 3 0=aL∧nextI 0 0=1):=Lib.hid ⟨by kernel_rfl,by kernel_rfl,rfl⟩
 go_enter Tryz.func10,Tryz.ntmps10
 go_wp2_with (first
  | (go_at_call 22;refine H0.out.mono ?_;rintro e w1 ⟨⟨fp,l,rfl,hl,hF⟩,hb⟩;have HL:=Lib.hid hl;clear hl)
  | (go_at_call 25;refine(Root_any fp _ _ l _ _ _ hF (by omega) hb.size).mono ?_;rw[HL.out,E1.out.1,E1.out.2.1,E1.out.2.2];rintro e w2 ⟨rfl,⟨l2,hl2,hF2⟩,hW⟩;have hb2:=hb.trans (hW.below hb.size);have hr:=aw_row w2;have hb3:=Below.allocS hb2 (.cells #[.int .i64 1,.int .i64 1,.int .i64 1,.int .i64 1,.int .i64 1,.int .i64 8] 75);have hF3:=hF2.below ((Below.refl _ _).alloc (Nat.le_refl _) (.cells #[.int .i64 1,.int .i64 1,.int .i64 1,.int .i64 1,.int .i64 1,.int .i64 8] 75));have HRT:=Lib.hid (Rates_any fp _ aL l2 _ _ _ _ aS 1 2 _ hF3 hr (by unfold I64;decide) (by decide));have HB3:=Lib.hid hb3;clear hb hF hF2 hF3 hW hb2 hr hb3))
 refine HRT.out.mono ?_
 rw[aw_err]
 rintro e w3 ⟨⟨v,rfl,hv,_⟩,hb⟩
 have hv:=hv rfl
 rw[aw_list] at hv
 have HB:=Lib.hid (HB3.out.trans (hb.mono HB3.out.size))
 obtain⟨B,cap,rfl,hBl,hc⟩:=hv.open (by simp)
 obtain⟨p0,q0,c0,c1,r0⟩:=hc 0 (by simp)
 obtain⟨p2,q2,c4,c5,r2⟩:=hc 2 (by simp)
 clear hc
 have hl:([rat 1 2,rat 1 2,1]:List Rat).length=3:=rfl
 rw[hl] at hv ⊢
 simp only[List.getD_cons_zero,List.getD_cons_succ,Nat.zero_mul,Nat.zero_add,Nat.reduceMul,Nat.reduceAdd] at c0 c1 c4 c5 r0 r2
 have H3:=Lib.hid (Qtext p0 q0 (rat 1 2) w3 r0)
 rw[awk_half] at H3
 have HR2:=Lib.hid r2
 clear hv hb r0 r2
 go_wp2_with fail
 refine H3.out.mono ?_
 rintro e w4 ⟨rfl,hb⟩
 replace c4:=(hb.cell (p:=⟨B,4,none⟩) hBl).trans c4
 replace c5:=(hb.cell (p:=⟨B,5,none⟩) hBl).trans c5
 have HB4:=Lib.hid (HB.out.trans (hb.mono HB.out.size))
 have H4:=Lib.hid (Qtext p2 q2 1 w4 (HR2.out.below hb))
 rw[awk_one] at H4
 clear hb c0 c1
 go_wp2_with fail
 refine H4.out.mono ?_
 rintro e w5 ⟨rfl,hb⟩
 have HB5:=Lib.hid (HB4.out.trans (hb.mono HB4.out.size))
 clear hb c4 c5
 go_wp2_with fail
 go_ret
 exact⟨rfl,HB5.out⟩
end Go.Proofs.YtohifgjeebhijaaGreatDoor
namespace Go.Proofs.YtohifgjeebhijaaGreatDoor
open Go.Rq
def prodE (E:Int→Nat):List Int→Nat
 | []=>1
 | y::l=>E y*prodE E l
theorem prodE_split (E:Int→Nat) (a c:Int→Bool) (hac: ∀y,a y=true→c y=false): ∀l:List Int,prodE E (l.filter fun y=>a y||c y)=prodE E (l.filter a)*prodE E (l.filter c)
 | []=>rfl
 | y::l=>by
  have ih:=prodE_split E a c hac l
  have h:=hac y
  rw[List.filter_cons,List.filter_cons,List.filter_cons]
  cases ha:a y with
  | true=>
   rw[h ha]
   simp only[Bool.or_false,if_true,prodE,ih,Nat.mul_assoc]
   simp
  | false=>
   cases hc:c y with
   | true=>
    simp only[Bool.or_true,if_true,prodE,ih]
    simp[Nat.mul_left_comm]
   | false=>simp[ih]
theorem prodE_mem (E:Int→Nat) {y:Int}: ∀ {l:List Int},y∈l→∃k,prodE E l=E y*k
 | z::l,h=>by
  rcases List.mem_cons.1 h with rfl | h
  ·exact⟨_,rfl⟩
  ·obtain⟨k,e⟩:=prodE_mem E h
   exact⟨E z*k,by rw[prodE,e];exact Nat.mul_left_comm _ _ _⟩
theorem prodE_le (E:Int→Nat) {M:Nat}: ∀ {l:List Int},(∀y∈l,E y≤big M)→prodE E l≤big (M*l.length)
 | [],_=>by simp[prodE,big]
 | y::l,h=>by
  have h1:=h y List.mem_cons_self
  have h2:=prodE_le E (M:=M) (l:=l) fun z hz=>h z (List.mem_cons_of_mem _ hz)
  rw[prodE,List.length_cons,Nat.mul_add,Nat.mul_one,Nat.add_comm,←big_add]
  exact Nat.mul_le_mul h1 h2
theorem prodE_ne (E:Int→Nat): ∀ {l:List Int},(∀y∈l,E y≠0)→prodE E l≠0
 | [],_=>by simp[prodE]
 | y::l,h=>by
  rw[prodE]
  exact Nat.mul_ne_zero (h y List.mem_cons_self) (prodE_ne E fun z hz=>h z (List.mem_cons_of_mem _ hz))
theorem whole_dvdm {D E k:Nat} {r:Rat} (h:Whole D r) (e:E=D*k):Whole E r:=by rw[e];exact whole_more k h
section
variable {L:List Gr} {m k:Int} {ls:List Lf} {root:Int} (F:Fits L m k ls root)
include F
theorem all_whole {x:Rat} (h0:0≤x) (hx:x≤((ls.length:Nat):Rat)) (hn: ∃n:Nat,x=((n:Nat):Rat)) (hf:fewB L ls root=true):
  ∃D:Nat,D≠0∧D≤big 2048∧(∀i,i<ls.length→Whole D (leafR L ls root x i))∧(∀g,belowB L g root=true→Whole D (rate L ls root x g)):=by
 have hch: ∀g:Int,∃E:Nat,E≠0∧E≤big 32∧(belowB L g root=true→∀D,D≠0→Whole D (rate L ls root x g)→Whole (D*E) (lvl L ls root x g)):=by
  intro g
  by_cases hb:belowB L g root=true
  ·obtain⟨E,h1,h2,h3⟩:=level_E F h0 hx hb (fewB_iff.1 hf g hb)
   exact⟨E,h1,h2,fun _=>h3⟩
  ·exact⟨1,by omega,Nat.one_le_two_pow,fun h=>absurd h hb⟩
 obtain⟨E,hE⟩:=Classical.axiomOfChoice hch
 have hne: ∀l:List Int,prodE E l≠0:=fun l=>prodE_ne E fun y _=>(hE y).1
 let Q:Nat→Nat:=fun d=>prodE E ((idsG L).filter fun y=>decide ((pth L y).length<d))
 have hstep: ∀g,has L g=true→∃c,Q ((pth L g).length+1)=Q (pth L g).length*E g*c:=by
  intro g hg
  have h1:=prodE_split E (fun y=>decide ((pth L y).length<(pth L g).length)) (fun y=>decide ((pth L y).length=(pth L g).length)) (fun y hy=>by simp at hy ⊢;omega) (idsG L)
  have h2:((idsG L).filter fun y=>decide ((pth L y).length<(pth L g).length+1))=((idsG L).filter fun y=>decide ((pth L y).length<(pth L g).length)||decide ((pth L y).length=(pth L g).length)):=by
   apply List.filter_congr
   intro y _
   rw[Bool.eq_iff_iff]
   simp
   omega
  obtain⟨c,h3⟩:=prodE_mem E (y:=g) (l:=(idsG L).filter fun y=>decide ((pth L y).length=(pth L g).length)) (List.mem_filter.2 ⟨has_ids.1 hg,by simp⟩)
  refine⟨c,?_⟩
  show prodE E _=prodE E _*E g*c
  rw[h2,h1,h3,Nat.mul_assoc]
 have hall: ∀d,∃c,prodE E (idsG L)=Q d*c:=by
  intro d
  have h1:=prodE_split E (fun y=>decide ((pth L y).length<d)) (fun y=> !decide ((pth L y).length<d)) (fun y hy=>by simp at hy ⊢;omega) (idsG L)
  refine⟨prodE E ((idsG L).filter fun y=> !decide ((pth L y).length<d)),?_⟩
  show _=prodE E _*prodE E _
  rw[←h1]
  congr 1
  exact(List.filter_eq_self.2 fun y _=>by simp).symm
 have hrate: ∀(n:Nat) (g:Int),belowB L g root=true→(pth L g).length≤n→Whole (Q (pth L g).length) (rate L ls root x g):=by
  intro n
  induction n with
  | zero=>
   intro g hb hl
   rw[F.ok.yes (below_has hb)] at hl
   simp at hl
  | succ n ih=>
   intro g hb hl
   by_cases e:g=root
   ·subst e
    rw[rate_root]
    obtain⟨c,e⟩:=hn
    rw[e]
    exact whole_nat _ _
   ·have hup:=F.up hb e
    have hln:(pth L g).length=(pth L (gr L g).pa).length+1:=by rw[F.ok.yes (below_has hb)];rfl
    have h1:=ih (gr L g).pa hup (by omega)
    have h2:=(hE (gr L g).pa).2.2 hup _ (hne _) h1
    obtain⟨c,h3⟩:=hstep (gr L g).pa (below_has hup)
    rw[rate_step F x hb e,hln]
    exact whole_given (whole_dvdm h2 h3) _
 refine⟨prodE E (idsG L),hne _,?_,fun i hi=>?_,fun g hb=>?_⟩
 ·have h1:=prodE_le E (M:=32) (l:=idsG L) fun y _=>(hE y).2.1
  refine Nat.le_trans h1 (big_le ?_)
  have h2:(idsG L).length=L.length:=by simp[idsG]
  have:=F.ok.n64
  omega
 ·have hb:=F.grp hi
  have h2:=(hE (lf ls i).1).2.2 hb _ (hne _) (hrate _ _ hb (Nat.le_refl _))
  obtain⟨c,h3⟩:=hstep (lf ls i).1 (below_has hb)
  obtain⟨c2,h4⟩:=hall ((pth L (lf ls i).1).length+1)
  exact whole_dvdm (whole_given (whole_dvdm h2 h3) _) h4
 ·obtain⟨c2,h4⟩:=hall (pth L g).length
  exact whole_dvdm (hrate _ g hb (Nat.le_refl _)) h4
end
theorem whole_sumI {α:Type} {D:Nat} {f:α→Rat}: ∀ {l:List α},(∀i∈l,Whole D (f i))→Whole D (sumI f l)
 | [],_=>by have:=whole_nat D 0;simpa[sumI] using this
 | i::l,h=>by
  rw[sumI]
  exact whole_add (h i List.mem_cons_self) (whole_sumI fun j hj=>h j (List.mem_cons_of_mem _ hj))
theorem sumI_le {α:Type} {f:α→Rat}: ∀ {l:List α},(∀i∈l,f i≤1)→sumI f l≤((l.length:Nat):Rat)
 | [],_=>by simp only[sumI,List.length_nil];exact Rat.le_refl
 | i::l,h=>by
  have h1:=h i List.mem_cons_self
  have h2:=sumI_le (l:=l) fun j hj=>h j (List.mem_cons_of_mem _ hj)
  rw[sumI,List.length_cons,Rat.natCast_add]
  have:(((1:Nat):Nat):Rat)=1:=rfl
  grind
end Go.Proofs.YtohifgjeebhijaaGreatDoor
namespace Go.Proofs.YtohifgjeebhijaaGreatDoor
open Go.RowKit Go.Maps Go.Rq
def cellsQ (p q:Sl):Array Value:= #[.slice p.a p.n p.c,.slice q.a q.n q.c]
theorem cQ0 {w:World} {b:Nat} {p q:Sl} (h:Blk w b 49 (cellsQ p q)):w.cell? ⟨b,0,none⟩=some (.slice p.a p.n p.c):=by rw[h.at];rfl
theorem cQ1 {w:World} {b:Nat} {p q:Sl} (h:Blk w b 49 (cellsQ p q)):w.cell? ⟨b,1,none⟩=some (.slice q.a q.n q.c):=by rw[h.at];rfl
theorem Tryz.info49s:(Tryz.prog.info? 49).map (·.size)=some 2:=by kernel_rfl
theorem run_alloc49 (w:World):(Instr.alloc 49 true (.tuple #[])).run Tryz.prog w= .ok (.pointer (some ⟨w.heap.size,0,none⟩)) (w.alloc (.cells #[.slice none 0 0,.slice none 0 0] 49)):=by kernel_rfl
section
variable {ops:Array Oper} {rest:List Oper} {o:Oper} {a:Act} {w:World} {Q:Exit→Act→World→Prop} {K:Act→World→Prop}
theorem wpList_alloc49 (hg:o.guard=none) (ho:o.op= .alloc 49) (h:wpList Tryz.prog ops Q rest (a.put o.dst (.pointer (some ⟨w.heap.size,0,none⟩))) (w.alloc (.cells #[.slice none 0 0,.slice none 0 0] 49))):wpList Tryz.prog ops Q (o::rest) a w:=
 wpList_plain hg fun _ hK=>by
  unfold Oper.wp execOp
  rw[ho]
  simp only[run_alloc49,Sem.run_bind,Sem.run_pure,Result.andThen_ok]
  exact hK _ _ h
theorem wpList_store49 (hg:o.guard=none) (x y:Operand) (ho:o.op= .store 49 x y) (b:Nat) (p q:Sl) {cs:Array Value} (hx:a.eval x= .pointer (some ⟨b,0,none⟩)) (hy:a.eval y= .agg #[.slice p.a p.n p.c,.slice q.a q.n q.c]) (hw:Blk w b 49 cs) (hc:cs.size=2)
  (h: ∀w',Blk w' b 49 (cellsQ p q)→Turn b w w'→wpList Tryz.prog ops Q rest (a.put o.dst undef) w'):wpList Tryz.prog ops Q (o::rest) a w:=
 wpList_plain hg fun _ hK=>wp_store_row 49 x y ho b (cellsQ p q) hx hy 49 _ hw Tryz.info49s hc (by simp[cellsQ];exact⟨rfl,rfl⟩) (hK _ _ (h _ (setRow_heap w b _ _ 49 _ hw) (Turn.setRow w b _)))
end
theorem RowQ.at {w:World} {a:Option Addr} {n c:Nat} {rs:List Rat} (h:RowQ w (.slice a n c) rs) {j:Nat} (hj:j<rs.length):
  ∃(B:Nat) (p q:Sl),a=some ⟨B,0,none⟩∧w.cell? ⟨B,j*2,none⟩=some (.slice p.a p.n p.c)∧w.cell? ⟨B,j*2+1,none⟩=some (.slice q.a q.n q.c)∧RQ w p q (rs.getD j 0):=by
 obtain⟨ad,cap,e,h2⟩:=h
 injection e with e1 _ _
 obtain⟨B,rfl,_,hc⟩:=h2 (by rintro rfl;simp at hj)
 obtain⟨p,q,c0,c1,hq⟩:=hc j hj
 exact⟨B,p,q,e1,c0,c1,hq⟩
theorem RowQ.below2 {w w':World} {v:Value} {rs:List Rat} (h:RowQ w v rs) (hb:Below w.heap.size w w'):RowQ w' v rs:=h.below (fun _ _ _ h=>h.below hb) hb
theorem RowX.below2 {w w':World} {v:Value} {rs:List Rat} (h:RowX RQ w v rs) (hb:Below w.heap.size w w'):RowX RQ w' v rs:=h.below (fun _ _ _ h=>h.below hb) hb
theorem rlist_len (L:List Gr) (ls:List Lf) (root online:Int):(rlist L ls root online).length=ls.length:=by simp[rlist]
theorem rlist_at {L:List Gr} {ls:List Lf} {root online:Int} {j:Nat} (h:j<ls.length):(rlist L ls root online).getD j 0=leafR L ls root (shX ls online) j:=by simp[rlist,List.getD_eq_getElem?_getD,h]
theorem errA_ok {L:List Gr} {m k:Int} {ls:List Lf} {root online:Int} (ok:Ok L m k) (h:errA L ls root online=0):Fits L m k ls root∧1≤online∧online≤64∧fewB L ls root=true:=by
 unfold errA at h
 split at h
 ·rename_i h1
  obtain⟨F,h2,h3⟩:=fits_of ok h1
  refine⟨F,h2,h3,?_⟩
  unfold codeG at h
  split at h
  ·rename_i h4;exact h4
  ·cases h
 ·rename_i h1
  exact absurd h h1
structure Kp (W w:World) (B fp b1 tD:Nat) (va:Value) (root online:Int) (al:Option Addr) (cl:Nat) (aD:Option Addr) (cD:Nat) (L:List Gr) (l:List Int) (m k:Int) (ls:List Lf):Prop where
 F:IsF w B fp L l m k
 G:RowG w (.slice aD L.length cD) L
 T:Blk w b1 25 #[va,.int .i64 root,.int .i64 online,.slice al ls.length cl]
 R:RowL w (.slice al ls.length cl) ls
 D:Blk w tD 29 (cellsF 40 m (.slice aD L.length cD))
 bel:Below W.heap.size W w
section
variable {W w w':World} {B fp b1 tD:Nat} {va:Value} {root online:Int} {al:Option Addr} {cl:Nat} {aD:Option Addr} {cD:Nat} {L:List Gr} {l:List Int} {m k:Int} {ls:List Lf}
theorem Kp.below (h:Kp W w B fp b1 tD va root online al cl aD cD L l m k ls) (hb:Below w.heap.size w w'):Kp W w' B fp b1 tD va root online al cl aD cD L l m k ls:=
 ⟨h.F.below hb,h.G.below hb,h.T.below hb,h.R.below hb,h.D.below hb,h.bel.trans (hb.mono h.bel.size)⟩
theorem Kp.drew (h:Kp W w B fp b1 tD va root online al cl aD cD L l m k ls):Kp W w.drew B fp b1 tD va root online al cl aD cD L l m k ls:=h.below ((Same.drew w).below _)
theorem Kp.c1 (h:Kp W w B fp b1 tD va root online al cl aD cD L l m k ls):w.cell? ⟨b1,1,none⟩=some (.int .i64 root):=by rw[h.T.at];rfl
theorem Kp.c2 (h:Kp W w B fp b1 tD va root online al cl aD cD L l m k ls):w.cell? ⟨b1,2,none⟩=some (.int .i64 online):=by rw[h.T.at];rfl
theorem Kp.c3 (h:Kp W w B fp b1 tD va root online al cl aD cD L l m k ls):w.cell? ⟨b1,3,none⟩=some (.slice al ls.length cl):=by rw[h.T.at];rfl
end
theorem nil_rat:(((0:Nat):Nat):Rat)=0:=rfl
end Go.Proofs.YtohifgjeebhijaaGreatDoor
namespace Go.Proofs.YtohifgjeebhijaaGreatDoor
open Go.RowKit Go.Maps Go.Rq
theorem Lim.turnQ {q0:IntKind} {w w':World} {u:Value} {l:List Nat} {d:Nat} {p q:Sl} (h:Lim q0 w u l) (ht:Turn d w w') (hd:Blk w d 49 (cellsQ p q)):Lim q0 w' u l:=by
 obtain⟨ad,cap,e1,h1,h2⟩:=h
 refine⟨ad,cap,e1,h1,fun hne=>?_⟩
 obtain⟨b,off,rfl,hb,hc⟩:=h2 hne
 have hbd:b≠d:=by
  rintro rfl
  have h3:=hc 0 (List.length_pos_iff.2 hne)
  unfold Blk at hd
  simp only[World.cell?,hd,Nat.add_zero,cellsQ] at h3
  match off,h3 with
  | 0,h3=>cases h3
  | 1,h3=>cases h3
  | n+2,h3=>simp at h3
 exact⟨b,off,rfl,by rw[ht.size];exact hb,fun j hj=>(World.cell?_of_block (w:=w) (a:=⟨b,off+j,none⟩) (ht.block b hbd)).trans (hc j hj)⟩
theorem RQ.turnQ {w w':World} {d:Nat} {p q x y:Sl} {r:Rat} (h:RQ w x y r) (ht:Turn d w w') (hd:Blk w d 49 (cellsQ p q)):RQ w' x y r:=⟨h.1,h.2.1.turnQ ht hd,h.2.2.turnQ ht hd⟩
theorem shX_range (ls:List Lf) (online:Int):0≤shX ls online∧shX ls online≤((ls.length:Nat):Rat):=⟨Rat.natCast_nonneg,Rat.natCast_le_natCast.2 (Nat.min_le_right _ _)⟩
section
variable {L:List Gr} {m k:Int} {ls:List Lf} {root:Int} (F:Fits L m k ls root)
include F
theorem leaf_all {online:Int} (ho:1≤online) {i:Nat} (hi:i<ls.length):0<leafR L ls root (shX ls online) i∧leafR L ls root (shX ls online) i≤1:=by
 refine leaf_range F ?_ (shX_range ls online).2 hi
 unfold shX
 exact Rat.natCast_pos.2 (by omega)
theorem part_sz {online:Int} (ho:1≤online) (hf:fewB L ls root=true) (l:List Nat) (hl: ∀i∈l,i<ls.length) (hn:l.length≤100):Sz (sumI (leafR L ls root (shX ls online)) l):=by
 have hx:=shX_range ls online
 obtain⟨D,hD,hD2,hw,_⟩:=all_whole F hx.1 hx.2 ⟨_,rfl⟩ hf
 have h1: ∀i∈l,0<leafR L ls root (shX ls online) i∧leafR L ls root (shX ls online) i≤1:=fun i hi=>leaf_all F ho (hl i hi)
 refine Sz.whole (D:=D) (B:=100) hD (whole_sumI fun i hi=>hw i (hl i hi)) (sumI_nonneg fun i hi=>Rat.le_of_lt (h1 i hi).1) ?_ (Nat.le_trans hD2 (big_le (by omega))) (big_small 3000 (by decide) (by omega))
 exact Rat.le_trans (sumI_le fun i hi=>(h1 i hi).2) (Rat.natCast_le_natCast.2 hn)
end
theorem cmp_le {r s:Rat} (h:r≤s): ¬ 0<cmpQ r s:=fun h1=>Rat.not_lt.2 h (cmpQ_gt.1 h1)
end Go.Proofs.YtohifgjeebhijaaGreatDoor
namespace Go.Proofs.YtohifgjeebhijaaGreatDoor
open Go.RowKit Go.Maps Go.Rq
theorem Mv.look2 {w:World} {b n:Nat} {G:Int→Option Value} (h:Mv w b n G) {t e:TypeId} (ht:Tryz.prog.underlying t=some (.map 3 e)) {z:Value} (hz:(zeroValue e).run Tryz.prog w= .ok z w) {x:Int} (hx:I64 x):(Instr.lookup t (.map (some b)) (.int .i64 x) true).run Tryz.prog w= .ok (.tuple #[(G x).getD z,.bool (G x).isSome]) w:=by
 obtain⟨D,hown,_,hat⟩:=h
 obtain⟨v,ps,hrun,hv⟩:=hown.look_ok law3 ht hz (show idE z=some (.held z,[]) from rfl) (keyOf_int_mk Tryz.underlying3 (wf64 hx))
 rw[hat] at hv
 rw[hrun]
 unfold idE at hv
 simp only[Option.some.injEq,Prod.mk.injEq] at hv
 have hv:=hv.1
 cases hG:G x with
 | none=>
  have h1:Maps.has D (.int .i64 x)=false:=has_false_of_atKey fun z=>by rw[hat,hG]
  rw[hG] at hv;simp only[DataW.held.injEq] at hv;rw[hv,h1];rfl
 | some c=>
  have h1:Maps.has D (.int .i64 x)=true:=has_true_of_atKey (y:=.held c) fun z=>by rw[hat,hG]
  rw[hG] at hv;simp only[DataW.held.injEq] at hv;rw[hv,h1];rfl
theorem zero49 (w:World):(zeroValue 49).run Tryz.prog w= .ok (.agg #[.slice none 0 0,.slice none 0 0]) w:=by kernel_rfl
theorem wp_store49 {w:World} {o:Oper} {a:Act} {K:Act→World→Prop} {Q:Exit→Act→World→Prop} (x y:Operand) (ho:o.op= .store 49 x y) (b:Nat) (p q:Sl) {cs:Array Value} (hx:a.eval x= .pointer (some ⟨b,0,none⟩)) (hy:a.eval y= .agg #[.slice p.a p.n p.c,.slice q.a q.n q.c]) (hw:Blk w b 49 cs) (hc:cs.size=2)
  (h: ∀w',Blk w' b 49 (cellsQ p q)→Turn b w w'→K (a.put o.dst undef) w'):o.wp Tryz.prog a w K Q:=
 wp_store_row 49 x y ho b (cellsQ p q) hx hy 49 _ hw Tryz.info49s hc (by simp[cellsQ];exact⟨rfl,rfl⟩) (h _ (setRow_heap w b _ _ 49 _ hw) (Turn.setRow w b _))
def bs (L:List Gr) (ls:List Lf) (g:Int) (j:Nat):List Nat:=(List.range j).filter fun i=>belowB L (lf ls i).1 g
theorem bs_yes {L:List Gr} {ls:List Lf} {g:Int} {j:Nat} (h:belowB L (lf ls j).1 g=true):bs L ls g (j+1)=bs L ls g j++[j]:=by
 unfold bs
 rw[List.range_succ,List.filter_append]
 simp only[List.filter_cons,List.filter_nil]
 rw[h]
 rfl
theorem bs_no {L:List Gr} {ls:List Lf} {g:Int} {j:Nat} (h:belowB L (lf ls j).1 g=false):bs L ls g (j+1)=bs L ls g j:=by
 unfold bs
 rw[List.range_succ,List.filter_append]
 simp only[List.filter_cons,List.filter_nil]
 rw[h]
 simp
theorem bs_all (L:List Gr) (ls:List Lf) (g:Int):bs L ls g ls.length=bl L ls g:=rfl
theorem bs_len (L:List Gr) (ls:List Lf) (g:Int) (j:Nat):(bs L ls g j).length≤j:=by
 have h:=List.length_filter_le (fun i=>belowB L (lf ls i).1 g) (List.range j)
 rw[List.length_range] at h
 exact h
theorem bs_mem {L:List Gr} {ls:List Lf} {g:Int} {j i:Nat} (h:i∈bs L ls g j):i<j:=List.mem_range.1 (List.mem_filter.1 h).1
theorem sumI_snoc {f:Nat→Rat} (l:List Nat) (j:Nat):sumI f (l++[j])=sumI f l+f j:=by
 rw[sumI_append]
 simp only[sumI]
 grind
end Go.Proofs.YtohifgjeebhijaaGreatDoor
