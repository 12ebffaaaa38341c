import Derived.Test.YtohifgjeebhijaaGreatDoorVGg
namespace Go.Proofs.YtohifgjeebhijaaGreatDoor
set_option maxRecDepth 100000
set_option maxHeartbeats 4000000
open Go.RowKit Go.Maps Go.Rq
theorem Tryz.info53s:(Tryz.prog.info? 53).map (·.size)=some 2:=Ct
structure Rw (W0 w:World) (bL bG nL nG:Nat) (fL fG:Nat→Rat) (TL TG:Nat→Bool) (B:Nat) (vC:Value) (cs:List Ch) (vK:Value) (rs:List Rat):Prop where
 s:Sd W0 w bL bG nL nG fL fG TL TG
 c:db w B vC cs
 k:oG w vK rs
 b1:bL<B
 b2:bG<B
 ne: ∀j,vK.ownBlock=some j→j≠bL∧j≠bG
section
variable {W0 w w':World} {bL bG nL nG n b:Nat} {f fL fG:Nat→Rat} {T TL TG:Nat→Bool} {B:Nat} {vC vK:Value} {cs:List Ch} {rs:List Rat} {o:Oper} {a:Act} {K:Act→World→Prop} {Q:Exit→Act→World→Prop} {ops:Array Oper} {rest:List Oper}
theorem Rw.below (h:Rw W0 w bL bG nL nG fL fG TL TG B vC cs vK rs) (hb:Below w.heap.size w w'):Rw W0 w' bL bG nL nG fL fG TL TG B vC cs vK rs:=
 ⟨h.s.below hb,h.c.below hb,dh.below h.k (fun _ _ _ h=>h.below hb) hb,h.b1,h.b2,h.ne⟩
theorem Rw.congr {TL' TG':Nat→Bool} (h:Rw W0 w bL bG nL nG fL fG TL TG B vC cs vK rs) (e1: ∀i,i<nL→TL' i=true→TL i=true) (e2: ∀i,i<nG→TG' i=true→TG i=true):Rw W0 w bL bG nL nG fL fG TL' TG' B vC cs vK rs:=
 ⟨h.s.congr e1 e2,h.c,h.k,h.b1,h.b2,h.ne⟩
theorem Rw.next {TL' TG':Nat→Bool} (h:Rw W0 w bL bG nL nG fL fG TL TG B vC cs vK rs) (hs:Sd W0 w' bL bG nL nG fL fG TL' TG') (ho:aQ bL bG w w'):Rw W0 w' bL bG nL nG fL fG TL' TG' B vC cs vK rs:=
 ⟨hs,h.c.only ho h.b1 h.b2,dh.only2 h.k h.s.l.sb h.s.g.sb ho h.ne,h.b1,h.b2,h.ne⟩
theorem gM (x y:Operand) (ho:o.op= .store 53 x y) (p q:Sl) (i:Nat) (hx:a.eval x= .pointer (some ⟨b,i*2,none⟩)) (hy:a.eval y= .agg #[.slice p.a p.n p.c,.slice q.a q.n q.c]) (hR:RtK w b n f T) (hi:i<n)
  (h:K (a.put o.dst undef) ((w.setCell ⟨b,i*2,none⟩ (.slice p.a p.n p.c)).setCell ⟨b,i*2+1,none⟩ (.slice q.a q.n q.c))):o.wp Tryz.prog a w K Q:=
 wp_store_mid 53 x y ho b (i*2) _ hx hy (fun j hj=>by
  have hj2:j<2:=by simpa using hj
  obtain⟨a,m,c,e⟩:=hR.cell (i:=i*2+j) A3;exact⟨by rw[e];rfl,hR.fz _⟩) Tryz.info53s (by simp;exact⟨rfl,rfl⟩) h
theorem s6 (x y:Operand) (ho:o.op= .store 53 x y) (p q:Sl) (i:Nat) (hx:a.eval x= .pointer (some ⟨bG,i*2,none⟩)) (hy:a.eval y= .agg #[.slice p.a p.n p.c,.slice q.a q.n q.c]) (hS:Sd W0 w bL bG nL nG fL fG TL TG) (hi:i<nG) (hq:RK w p q (fG i))
  (h: ∀w',Sd W0 w' bL bG nL nG fL fG TL (fun j=>TG j||decide (j=i))→K (a.put o.dst undef) w'):o.wp Tryz.prog a w K Q:=
 gM x y ho p q i hx hy hS.g hi (h _ (hS.putG hi hq).1)
theorem gI (hg:o.guard=none) (x y:Operand) (ho:o.op= .store 53 x y) (p q:Sl) (i:Nat) (hx:a.eval x= .pointer (some ⟨bG,i*2,none⟩)) (hy:a.eval y= .agg #[.slice p.a p.n p.c,.slice q.a q.n q.c]) (hS:Sd W0 w bL bG nL nG fL fG TL TG) (hi:i<nG) (hq:RK w p q (fG i))
  (h: ∀w',Sd W0 w' bL bG nL nG fL fG TL (fun j=>TG j||decide (j=i))→wpList Tryz.prog ops Q rest (a.put o.dst undef) w'):wpList Tryz.prog ops Q (o::rest) a w:=
 wpList_plain hg fun _ hK=>s6 x y ho p q i hx hy hS hi hq fun w' h1=>hK _ _ (h w' h1)
theorem p7 (x y:Operand) (ho:o.op= .store 53 x y) (p q:Sl) (i:Nat) (hx:a.eval x= .pointer (some ⟨bG,i*2,none⟩)) (hy:a.eval y= .agg #[.slice p.a p.n p.c,.slice q.a q.n q.c]) (hR:Rw W0 w bL bG nL nG fL fG TL TG B vC cs vK rs) (hi:i<nG) (hq:RK w p q (fG i))
  (h: ∀w',Rw W0 w' bL bG nL nG fL fG TL (fun j=>TG j||decide (j=i)) B vC cs vK rs→K (a.put o.dst undef) w'):o.wp Tryz.prog a w K Q:=
 gM x y ho p q i hx hy hR.s.g hi (h _ (hR.next (hR.s.putG hi hq).1 (hR.s.putG hi hq).2))
theorem pW (x y:Operand) (ho:o.op= .store 53 x y) (p q:Sl) (i:Nat) (hx:a.eval x= .pointer (some ⟨bL,i*2,none⟩)) (hy:a.eval y= .agg #[.slice p.a p.n p.c,.slice q.a q.n q.c]) (hR:Rw W0 w bL bG nL nG fL fG TL TG B vC cs vK rs) (hi:i<nL) (hq:RK w p q (fL i))
  (h: ∀w',Rw W0 w' bL bG nL nG fL fG (fun j=>TL j||decide (j=i)) TG B vC cs vK rs→K (a.put o.dst undef) w'):o.wp Tryz.prog a w K Q:=
 gM x y ho p q i hx hy hR.s.l hi (h _ (hR.next (hR.s.putL hi hq).1 (hR.s.putL hi hq).2))
end
theorem vj {L:List Gr} {m k0:Int} {ls:List Lf} {root:Int} (F:eN L m k0 ls root) {j:Nat} (hj:j<ls.length):tl L ls 1 0 j=false:=by
 have:=mG F.ok (az (F.grp hj));unfold tl;rw[decide_eq_false (show ¬dep L (lf ls j).1<1 by omega)];simp
theorem rf (r m:Int) (a:Option Addr) (c:Nat) (L:List Gr) (al:Option Addr) (cl0:Nat) (ls:List Lf) (root online:Int) (m0 k0:Int) (w:World) (h:aA w (.slice a L.length c) L) (hl:cu w (.slice al ls.length cl0) ls) (ok:Ok L m0 k0) (hn:ls.length≤1000) {E:Int} (he:bQ L ls root online=E) (hne:(E==0)=false):
  Calls Tryz.prog 14 #[.agg (ae r m (.slice a L.length c)),.int .i64 root,.int .i64 online,.slice al ls.length cl0] w fun e w'=>e= .returned (.tuple #[.slice none 0 0,.slice none 0 0,.int .i64 E])∧Below w.heap.size w w':=by
 have hb1:Below w.heap.size w (w.alloc (.cells (ae r m (.slice a L.length c)) 29)):=(Below.refl _ w).alloc lr _;have hw:=kb r m a c L al cl0 ls root online m0 k0 _ (h.below hb1) (hl.below hb1) ok hn;rw[he] at hw;have HW:=Hd hw;have HT:=Hd (Blk.new w 29 (ae r m (.slice a L.length c)));clear h hl ok he hw;unfold ae at *;go_enter Tryz.func14,Tryz.ntmps14;have t0:=cF0 HT.out;have t1:=cF1 HT.out;have t2:=cF2 HT.out
 go_wp2_with (first | (refine HW.mono ?_;rintro e w2 ⟨rfl,hb⟩;have hb2:=hb1.tr hb;clear hb t0 t1 t2))
 go_ret3
 exact⟨rfl,hb2⟩
theorem Ao {p:Prop} (h:p:=by have h1:=HC.out X (HRW.s.bel.trans (hX.mono HRW.s.bel.size));exact⟨h1.1,h1.2.1,h1.2.2,(hX.cell (p:=⟨bc,t*4+2,none⟩) hbc).trans x2,(hX.cell (p:=⟨bc,t*4+3,none⟩) hbc).trans x3,(hX.cell (p:=⟨bv,t*2,none⟩) hbv).trans y0,(hX.cell (p:=⟨bv,t*2+1,none⟩) hbv).trans y1⟩):p:=h
theorem tH (r m:Int) (a:Option Addr) (c:Nat) (L:List Gr) (al:Option Addr) (cl0:Nat) (ls:List Lf) (root online:Int) (m0 k0:Int) (w:World) (h:aA w (.slice a L.length c) L) (hl:cu w (.slice al ls.length cl0) ls) (ok:Ok L m0 k0) (hn:ls.length≤1000) (he:bQ L ls root online=0):
  Calls Tryz.prog 14 #[.agg (ae r m (.slice a L.length c)),.int .i64 root,.int .i64 online,.slice al ls.length cl0] w fun e w'=>(∃(vL:Value) (bG:Nat),e= .returned (.tuple #[vL,.slice (some ⟨bG,0,none⟩) L.length L.length,.int .i64 0])∧oG w' vL ((List.range ls.length).map (cW L ls root (shX ls online)))∧RtK w' bG L.length (fun k=>ct L ls root (shX ls online) (idk L k)) (fun k=>ag L (idk L k) root))∧Below w.heap.size w w':=by
 have n64:=ok.n64;obtain⟨FT,ho1,ho2,hfew⟩:=rM ok he;have hl64:=FT.n64;have hb1:Below w.heap.size w (w.alloc (.cells (ae r m (.slice a L.length c)) 29)):=(Below.refl _ w).alloc lr _;have hw:=kb r m a c L al cl0 ls root online m0 k0 _ (h.below hb1) (hl.below hb1) ok hn;rw[he] at hw;have HW:=Hd hw;have HT:=Hd (Blk.new w 29 (ae r m (.slice a L.length c)));have hpj:=aC FT.hr;obtain⟨bg,rfl,hcg0⟩:=(h.below hb1).at hpj;clear hcg0 hw he;have hxe:shX ls online=((min online.toNat ls.length:Nat):Rat):=rfl;obtain⟨x,hx⟩: ∃x,x=shX ls online:=⟨_,rfl⟩
 rw[←hx] at hxe ⊢;clear hx;have hx0:0≤x:=by rw[hxe];exact Rat.natCast_nonneg
 have hx1:x≤((ls.length:Nat):Rat):=by rw[hxe];exact Rat.natCast_le_natCast.2 (Nat.min_le_right _ _)
 obtain⟨FGf,hFG⟩: ∃f,f=fun k=>ct L ls root x (idk L k):=⟨_,rfl⟩
 obtain⟨FLf,hFL⟩: ∃f,f=cW L ls root x:=⟨_,rfl⟩
 rw[←hFG,←hFL];have HFG:=Hd hFG;have HFL:=Hd hFL;clear hFG hFL;have HX0:=Hd hx0;have HX1:=Hd hx1;have HXE:=Hd hxe;have HF:=Hd FT;have HFW:=Hd hfew;have HPR:=Hd (aF FT.hr);clear hx0 hx1 hxe hfew;have hmin:((min online.toNat ls.length:Nat):Int)=min online (ls.length:Int):=A3
 have HG:=Hd h;have HLL:=Hd hl;have HQ0:Hid (∀X,Calls Tryz.prog 29 #[.int .i64 0] X fun e w'=>∃p q:Sl,e= .returned (.agg #[.slice p.a p.n p.c,.slice q.a q.n q.c])∧RK w' p q 0∧Below X.heap.size X w'):=Hd fun X=>(jf 0 A3 X).mono (by rintro e w' ⟨p,q,h1,h2,h3⟩;exact⟨p,q,h1,h2,h3⟩)
 have hq1: ∀X,Calls Tryz.prog 29 #[.int .i64 ((min online.toNat ls.length:Nat):Int)] X fun e w'=>∃p q:Sl,e= .returned (.agg #[.slice p.a p.n p.c,.slice q.a q.n q.c])∧RK w' p q x∧Below X.heap.size X w':=fun X=>by rw[HXE.out];exact jf _ A3 X
 rw[hmin] at hq1;have HQ1:=Hd hq1;clear hmin hq1 h hl ok FT hn;unfold ae at *;go_enter Tryz.func14,Tryz.ntmps14;have t0:=cF0 HT.out;have t1:=cF1 HT.out;have t2:=cF2 HT.out
 go_wp2_with (first
  | (go_at_call 28;refine HW.mono ?_;rintro e w2 ⟨rfl,hb⟩;have hb2:=hb1.tr hb;replace HT:=Hd (HT.below hb);clear hb t0 t1 t2 HW hb1;have t2:=cF2 HT.out;have TK:True:=trivial)
  | (clear TK;at_make;refine ik rfl _ _ rfl ls.length rfl rfl A3 FLf ?_;intro w3 hL3 hb3;clear t2;have t2:=cF2 (HT.below hb3))
  | (at_make;refine ik rfl _ _ rfl L.length rfl rfl A3 (fun _=>0) ?_;intro w4 hG4 hb4;clear t2))
 have hs2:=hb2.size;have hS0:Sd w2 w4 w2.heap.size w3.heap.size ls.length L.length FLf (fun _=>0) (fun _=>false) (fun _=>false):=⟨hL3.below hb4,hG4,hb3.tr hb4,Nat.le_refl _,hb3.size,by have:=hL3.lt;omega⟩
 obtain⟨bL,hbL⟩: ∃b,b=w2.heap.size:=⟨_,rfl⟩
 obtain⟨bG,hbG⟩: ∃b,b=w3.heap.size:=⟨_,rfl⟩
 rw[←hbL,←hbG] at hS0;rw[←hbL,←hbG];clear hbL hbG hL3 hG4 hb3 hb4;have hBB: ∀X,Below w2.heap.size w2 X→Below w.heap.size w X:=fun X hX=>hb2.trans (hX.mono hs2)
 have HBW:=Hd hBB;have HAT:Hid (∀(y:Int) X,Below w2.heap.size w2 X→Calls Tryz.prog 30 #[.agg #[.int .i64 r,.int .i64 m,.slice (some ⟨bg,0,none⟩) L.length c],.int .i64 y] X fun e w'=>e= .returned (.int .i64 (atG L y))∧Below X.heap.size X w'):=Hd fun y X hX=>gO r m _ c L y X (HG.below (hBB X hX)) n64
 have HBE:Hid (∀(y:Int) X,has L y=true→Below w2.heap.size w2 X→Calls Tryz.prog 16 #[.agg #[.int .i64 r,.int .i64 m,.slice (some ⟨bg,0,none⟩) L.length c],.int .i64 y,.int .i64 root] X fun e w'=>e= .returned (.bool (ag L y root))∧Below X.heap.size X w'):=Hd fun y X hy hX=>d7 r m _ c L y root m0 k0 X (HG.below (hBB X hX)) HF.ok hy
 have HDE:Hid (∀(y:Int) X,has L y=true→Below w2.heap.size w2 X→Calls Tryz.prog 31 #[.agg #[.int .i64 r,.int .i64 m,.slice (some ⟨bg,0,none⟩) L.length c],.int .i64 y] X fun e w'=>e= .returned (.int .i64 (dep L y))∧Below X.heap.size X w'):=Hd fun y X hy hX=>kG r m _ c L y m0 k0 X (HG.below (hBB X hX)) HF.ok hy
 have HCH:Hid (∀(y:Int) X,has L y=true→Below w2.heap.size w2 X→Calls Tryz.prog 32 #[.agg #[.int .i64 r,.int .i64 m,.slice (some ⟨bg,0,none⟩) L.length c],.slice al ls.length cl0,.int .i64 y] X fun e w'=>(∃v,e= .returned v∧db w' X.heap.size v (chs L ls y))∧Below X.heap.size X w'):=Hd fun y X hy hX=>ry r m _ c L al cl0 ls y m0 k0 X (HG.below (hBB X hX)) (HLL.below (hBB X hX)) HF.ok (fun j hj=>az (HF.grp hj)) hl64 (HF.ok.id hy).1
 have HC:Hid (∀X,Below w2.heap.size w2 X→X.cell? ⟨w.heap.size,0,none⟩=some (.int .i64 r)∧X.cell? ⟨w.heap.size,1,none⟩=some (.int .i64 m)∧X.cell? ⟨w.heap.size,2,none⟩=some (.slice (some ⟨bg,0,none⟩) L.length c)):=Hd fun X hX=>by
  have h1:=HT.below hX;exact⟨cF0 h1,cF1 h1,cF2 h1⟩
 have HID:Hid (∀X,Below w2.heap.size w2 X→∀i,i<L.length→X.cell? ⟨bg,i*5,none⟩=some (.int .i64 (idk L i))):=Hd fun X hX i hi=>by
  obtain⟨bg',e9,hcg⟩:=(HG.below (hBB X hX)).at hi;injection e9 with e9;injection e9 with e9 _ _;subst e9;exact hcg.id hi
 have HS0:=Hd hS0;clear hS0 hBB HG HLL HT
 go_loopw [42] (fun i wr=>∃k:Nat,k≤L.length∧i= .int .i64 (k:Int)∧Hid (Sd w2 wr bL bG ls.length L.length FLf (fun _=>0) (fun _=>false) (fun j=>decide (j<k)))) (fun i _=>L.length - (intOf i).toNat)
 case atStart=>exact⟨0,Nat.zero_le _,rfl,Hd (HS0.congr (fun _ _ h=>h) (fun j _ h=>by simp at h))⟩
 case round=>
  clear HS0;obtain⟨k,hk,rfl,HS⟩:=hrel;by_cases hlt:k<L.length
  ·go_wp2_with (first | (go_at_call 29;refine(HQ0.out wr).mono ?_;rintro e w5 ⟨p,q,rfl,hq,hb⟩;have hS:=HS.below hb;clear hb HS) | (refine gI rfl _ _ rfl p q k rfl rfl hS hlt hq ?_;intro w6 hS6;clear hS hq))
   go_round
   case rel=>exact⟨k+1,A3,BH,Hd (hS6.congr (fun _ _ h=>h) (fun j _ h=>by simp at h ⊢;omega))⟩
   case measure=>simp[intOf];omega
  ·have ek:k=L.length:=A3
   subst ek;have HS1:Hid (Sd w2 wr bL bG ls.length L.length FLf FGf (fun _=>false) (fun j=>ag L (idk L j) root&&decide (many L ls (idk L j)=0))):=Hd ⟨HS.l,HS.g.refun (fun j hj h=>⟨by simp[hj],by
     rw[Bool.and_eq_true,decide_eq_true_eq] at h;rw[HFG.out];exact sw HF.out HX0.out HX1.out h.1 h.2⟩),HS.bel,HS.hL,HS.hG,HS.ne⟩
   have HRX:Hid (FGf (pos L root)=x):=Hd (by
    rw[HFG.out];show ct L ls root x (idk L (pos L root))=x;have e:idk L (pos L root)=root:=cV HF.hr;rw[e];exact eZ x)
   have HTG:Hid (∀j,j<L.length→tg L ls root 1 0 j=true→(ag L (idk L j) root&&decide (many L ls (idk L j)=0)||decide (j=pos L root))=true):=Hd fun j hj h=>by
    obtain⟨h1,h2⟩:=uQ HF.out h;rcases h2 with h2 | h2
    ·have:=ri HF.ok hj;rw[h2] at this;simp[this]
    ·simp[h1,h2]
   clear HS;generalize pos L root=pr at *;have hc:=HC.out wr HS1.bel;have t0:=hc.1;have t1:=hc.2.1;have t2:=hc.2.2;clear hc
   go_wp2_with (first
    | (go_at_call 30;refine(HAT.out root wr HS1.bel).mono ?_;rintro e w5 ⟨rfl,hb⟩;rw[HPR.out];have HS2:=Hd (HS1.below hb);clear hb HS1 t0 t1 t2)
    | (go_at_call 29;refine(HQ1.out w5).mono ?_;rintro e w6 ⟨p,q,rfl,hq,hb⟩;have hS:=HS2.below hb;have hq2:RK w6 p q (FGf pr):=(by rw[HRX.out];exact hq);clear hb HS2 hq)
    | (refine gI rfl _ _ rfl p q pr rfl rfl hS hpj hq2 ?_;intro w7 hS7;clear hS hq2))
   have HS8:Hid (Sd w2 w7 bL bG ls.length L.length FLf FGf (tl L ls 1 0) (tg L ls root 1 0)):=Hd (hS7.congr (fun j hj h=>by rw[vj HF.out hj] at h;cases h) (fun j hj h=>HTG.out j hj h));clear hS7 HTG HRX
   go_loopw [15] (fun v wr=>∃d:Nat,1≤d∧d≤9∧v= .int .i64 (d:Int)∧Hid (Sd w2 wr bL bG ls.length L.length FLf FGf (tl L ls (d:Int) 0) (tg L ls root (d:Int) 0))) (fun v _=>9 - (intOf v).toNat)
   case atStart=>exact⟨1,A3,A3,rfl,HS8⟩
   case round=>
    clear HS8;obtain⟨d,hd1,hd9,rfl,HS⟩:=hrel;by_cases hd:d≤8
    ·have t2:=(HC.out wr HS.bel).2.2;have hdq:decide ((d:Int)≤8)=true:=decide_eq_true A3
     go_wp2_with fail
     clear t2 hdq
     go_loopw [67] (fun v wr=>∃i:Nat,i≤L.length∧v= .int .i64 (i:Int)∧Hid (Sd w2 wr bL bG ls.length L.length FLf FGf (tl L ls (d:Int) i) (tg L ls root (d:Int) i))) (fun v _=>L.length - (intOf v).toNat)
     case atStart=>exact⟨0,Nat.zero_le _,rfl,HS⟩
     case round=>
      clear HS;obtain⟨i,hi,rfl,HS⟩:=hrel;by_cases hlt:i<L.length
      ·have hhy:=mR hlt;have hid:=HID.out wr HS.bel i hlt;obtain⟨y,hyy⟩: ∃y,y=idk L i:=⟨_,rfl⟩
       rw[←hyy] at hid hhy;have HY:=Hd hyy;clear hyy;have hc:=HC.out wr HS.bel;have t0:=hc.1;have t1:=hc.2.1;have t2:=hc.2.2;clear hc;by_cases hbe:ag L y root=true
       ·by_cases hde:dep L y=(d:Int)
        ·skip
         have HYB:=Hd hbe;have HDD:=Hd hde
         go_wp2_with (first
          | (go_at_call 16;refine(HBE.out y wr hhy HS.bel).mono ?_;rintro e w5 ⟨rfl,hb⟩;rw[HYB.out];have HS2:=Hd (HS.below hb);clear hb t0 t1 t2 hid HS;have hc:=HC.out w5 HS2.bel;have t0:=hc.1;have t1:=hc.2.1;have t2:=hc.2.2;clear hc)
          | (go_at_call 31;refine(HDE.out y w5 hhy HS2.bel).mono ?_;rintro e w6 ⟨rfl,hb⟩;rw[HDD.out];have HS3:=Hd (HS2.below hb);clear hb t0 t1 t2 HS2;have hc:=HC.out w6 HS3.bel;have t0:=hc.1;have t1:=hc.2.1;have t2:=hc.2.2;clear hc)
          | (go_at_call 32;refine(HCH.out y w6 hhy HS3.bel).mono ?_;rintro e w7 ⟨⟨v,rfl,hv⟩,hb⟩;obtain⟨va,vc,rfl⟩:=hv.sl;have HS4:=Hd (HS3.below hb);have HV:=Hd hv;have hlt6:=And.intro HS3.l.lt HS3.g.lt;clear hb t0 t1 t2 hv HS3))
         have hcl:=rC L ls y;have hk32:=dq.1 HFW.out y hbe;obtain⟨cs,hcs⟩: ∃cs,cs=chs L ls y:=⟨_,rfl⟩
         rw[←hcs] at HV hcl ⊢;have HCS:=Hd hcs;clear hcs;have hc32:cs.length≤32:=A3
         have HCL:=Hd hcl;clear hcl
         go_loopw [94,19,20] (fun v p u wr=>∃k:Nat,k≤cs.length∧v= .int .i64 (k:Int)∧Hid (Two wr w7.heap.size p u ((cs.take k).map fun c=>c.1) ((cs.take k).map fun c=>c.2.1))∧Hid (Below w7.heap.size w7 wr)) (fun v _ _ _=>cs.length - (intOf v).toNat)
         case atStart=>exact⟨0,Nat.zero_le _,rfl,Hd (by simpa using Two.nil w7 w7.heap.size),Hd (Below.refl _ _)⟩
         case round=>
          obtain⟨k,hk,rfl,HT2,HB2⟩:=hrel;have T:=HT2.out;have hB:=HB2.out;clear HT2 HB2;by_cases hlt2:k<cs.length
          ·obtain⟨bc,rfl,_,hbc,x0,x1,_,_⟩:=HV.at hlt2;have HXX:Hid ((cs.take (k+1)).map (fun c=>c.1)=(cs.take k).map (fun c=>c.1)++[(ch cs k).1]):=Hd (map_take (fun c=>c.1) _ hlt2);have HYY:Hid ((cs.take (k+1)).map (fun c=>c.2.1)=(cs.take k).map (fun c=>c.2.1)++[(ch cs k).2.1]):=Hd (map_take (fun c=>c.2.1) _ hlt2);have hxl:((cs.take k).map fun c=>c.1).length≤128:=Cq
           have hyl:((cs.take k).map fun c=>c.2.1).length≤128:=Cq
           generalize ch cs k=z at *;obtain⟨wt,cp,g2,l3⟩:=z;dsimp only at x0 x1 HXX HYY;have HXC:Hid (∀X,Below w7.heap.size w7 X→X.cell? ⟨bc,k*4,none⟩=some (.int .i64 wt)∧X.cell? ⟨bc,k*4+1,none⟩=some (.int .i64 cp)):=Hd fun X hX=>⟨(hX.cell (p:=⟨bc,k*4,none⟩) hbc).trans x0,(hX.cell (p:=⟨bc,k*4+1,none⟩) hbc).trans x1⟩
           clear x0 x1;have y0:=(HXC.out wr hB).1;generalize (cs.take k).map (fun c=>c.1)=xs at *;generalize (cs.take k).map (fun c=>c.2.1)=ys at *;have TK2:True:=trivial
           go_wp2_with (first
            | (at_builtin;clear TK2;refine eH rfl _ _ rfl w7.heap.size u19 _ wr.heap.size wt rfl rfl (bZ.new wr wt) (Below.allocS hB _).size (T.l.alloc _) A3 ?_;intro va8 w8 h3 h4 h5;have T8:=(T.below ((Below.refl _ _).alloc lr (.cells #[.int .i64 wt] 3))).pushL h3 h4 h5;have hB8:=(Below.allocS hB (.cells #[.int .i64 wt] 3)).trans (aY (T.l.alloc (.cells #[.int .i64 wt] 3)) (Below.allocS hB _).size h4);clear h3 h4 h5 y0;have y1:=(HXC.out w8 hB8).2)
            | (at_builtin;refine eH rfl _ _ rfl w7.heap.size u20 _ w8.heap.size cp rfl rfl (bZ.new w8 cp) (Below.allocS hB8 _).size (T8.r.alloc _) A3 ?_;intro vb w9 h3 h4 h5;have T9:=(T8.below ((Below.refl _ _).alloc lr (.cells #[.int .i64 cp] 3))).pushR h3 h4 h5;have hB9:=(Below.allocS hB8 (.cells #[.int .i64 cp] 3)).trans (aY (T8.r.alloc (.cells #[.int .i64 cp] 3)) (Below.allocS hB8 _).size h4);clear h3 h4 h5 y1))
           go_round
           case rel=>exact⟨k+1,A3,BH,Hd (by rw[HXX.out,HYY.out];exact T9),Hd hB9⟩
           case measure=>simp[intOf];omega
          ·have ek:k=cs.length:=A3
           subst ek;rw[List.take_length] at T;obtain⟨pa,ea,hpa⟩:=T.l.rowI.sl;obtain⟨pb,eb,hpb⟩:=T.r.rowI.sl;subst ea eb;have hS5:=HS4.below hB;obtain⟨p,q,z0,z1,hRK⟩:=hS5.g.at hlt (yh (by rw[←HY.out];exact hbe) (by rw[←HY.out];exact hde));have efg:FGf i=ct L ls root x y:=by rw[HFG.out,HY.out]
           rw[efg] at hRK;rw[HCS.out,yZ HF.out] at hpa;rw[HCS.out,yV] at hpb;obtain⟨D,hD1,hD2,hD3⟩:=wH HF.out HX0.out HX1.out ⟨_,HXE.out⟩ HFW.out _ y hbe lr;have hfine:gS D (ct L ls root x y):=⟨hD1,Nat.le_trans hD2 (kh (by have:=(HF.ok.dep8 y).2;unfold dep at this;omega)),hD3⟩
           have hcp:ct L ls root x y≤((bT (kd L ls y):Nat):Rat):=by
            rw[iG HF.out (az hbe)];exact(d8 HF.out HX0.out HX1.out _ y hbe lr).2
           have hfi:=vJ p q pa pb (ct L ls root x y) (kd L ls y) D wr hRK hpa hpb hk32 (Hd (f5 HF.out y)) (Hd hfine) (Hd hcp) (Hd (oz (f5 HF.out y) hk32 hcp));obtain⟨rs,hrs⟩: ∃rs,rs=(kd L ls y).map (given (aN (ct L ls root x y) (kd L ls y))):=⟨_,rfl⟩
           rw[←hrs] at hfi;have hln:rs.length=cs.length:=by rw[hrs,List.length_map];exact HCL.symm
           have HRS:Hid (rs=(kd L ls y).map (given (lvl L ls root x y))):=Hd hrs;have HLN:=Hd hln;have HFI:=Hd hfi;have HS5:=Hd hS5;have HV5:=Hd (HV.below hB);clear hfi hrs hcp hfine hD1 hD2 hD3 hpa hpb efg hRK hS5 hB T HV HS4 hln
           go_wp2_with (first | (go_at_call 33;refine HFI.mono ?_;rintro e w8 ⟨v9,rfl,hv9,hfr,hb⟩;obtain⟨ad,vcap,e9,hx9⟩:=hv9;rw[HLN.out] at e9;subst e9;have HR9:Hid (Rw w2 w8 bL bG ls.length L.length FLf FGf (tl L ls (d:Int) i) (tg L ls root (d:Int) i) w6.heap.size (.slice va cs.length vc) cs (.slice ad cs.length vcap) rs):=Hd ⟨HS5.below hb,HV5.below hb,⟨ad,vcap,by rw[HLN.out],hx9⟩,hlt6.1,hlt6.2,fun j e=>And.intro (by have h1:=hfr j e;have h2:=HS5.l.lt;omega) (by have h1:=hfr j e;have h2:=HS5.g.lt;omega)⟩;clear hb hfr hx9 z0 z1 HFI))
           clear HS5 HV5
           go_loopw [126] (fun v wr=>∃t:Nat,t≤cs.length∧v= .int .i64 (t:Int)∧Hid (Rw w2 wr bL bG ls.length L.length FLf FGf (fun j=>tl L ls (d:Int) i j||wl cs t j) (fun k=>tg L ls root (d:Int) i k||wg L cs t k) w6.heap.size (.slice va cs.length vc) cs (.slice ad cs.length vcap) rs)) (fun v _=>cs.length - (intOf v).toNat)
           case atStart=>exact⟨0,Nat.zero_le _,rfl,Hd (HR9.congr (fun j _ h=>by simpa[wl] using h) (fun k _ h=>by simpa[wg] using h))⟩
           case round=>
            clear HR9;obtain⟨t,ht,rfl,HRW⟩:=hrel;by_cases hlt3:t<cs.length
            ·obtain⟨bc,rfl,_,hbc,_,_,x2,x3⟩:=HRW.c.at hlt3;obtain⟨bv,p,q,rfl,y0,y1,hRK⟩:=oG.at HRW.k (by rw[HLN.out];exact hlt3);have hbv:=World.block_lt_of_cell? _ _ y0;have hX:=Below.drewS (Below.refl wr.heap.size wr);by_cases htk:t<(kg L ls y).length
             ·have hkr:=vA HF.out x hbe htk;have hck:=yI (L:=L) (ls:=ls) htk;obtain⟨y2,hy2⟩: ∃z,z=(kg L ls y).getD t 0:=⟨_,rfl⟩
              rw[←hy2,←HRS.out] at hkr;rw[←hy2,←HCS.out] at hck;clear hy2;rw[hck] at x2 x3;replace x2:wr.cell? ⟨bc,t*4+2,none⟩=some (.int .i64 y2):=x2;replace x3:wr.cell? ⟨bc,t*4+3,none⟩=some (.int .i64 0):=x3;have hy0:0<y2:=by have:=(HF.ok.id hkr.2).1;omega
              have hpy:=aC hkr.2;have HPY:=Hd (aF hkr.2);have HRK:Hid (RK wr p q (FGf (pos L y2))):=Hd (by
               rw[HFG.out];show RK wr p q (ct L ls root x (idk L (pos L y2)));have e:idk L (pos L y2)=y2:=cV hkr.2;rw[e,←hkr.1];exact hRK)
              have HWG:Hid (∀k,wg L cs (t+1) k=true→wg L cs t k=true∨k=pos L y2):=Hd fun k h=>by
               rw[rP hlt3,hck] at h;simp only[chG,Bool.or_eq_true,Bool.and_eq_true] at h;rcases h with h | h
               ·exact .inl h
               ·exact .inr (of_decide_eq_true h.2).symm
              have HWL:Hid (∀j,wl cs (t+1) j=true→wl cs t j=true):=Hd fun j h=>by
               rw[r3 hlt3,hck] at h;simpa[chG,hy0] using h
              have HCX:Hid (∀X,Below wr.heap.size wr X→X.cell? ⟨w.heap.size,0,none⟩=some (.int .i64 r)∧X.cell? ⟨w.heap.size,1,none⟩=some (.int .i64 m)∧X.cell? ⟨w.heap.size,2,none⟩=some (.slice (some ⟨bg,0,none⟩) L.length c)∧X.cell? ⟨bc,t*4+2,none⟩=some (.int .i64 y2)∧X.cell? ⟨bc,t*4+3,none⟩=some (.int .i64 0)∧X.cell? ⟨bv,t*2,none⟩=some (.slice p.a p.n p.c)∧X.cell? ⟨bv,t*2+1,none⟩=some (.slice q.a q.n q.c)):=Hd fun X hX=>by
               exact Ao
              clear hkr hck y0 y1 x3 hbc hbv hRK;generalize pos L y2=py at *
              go_wp2_with fail
              clear x2;refine Rd.rg (fun X=>Below wr.heap.size wr X) 13 [0,1,2,3,4,5,6,8,9,10,11,12] [0,1,2,3,4,5,6,8,9,10,11,7,12,13] hX ?_;generalize wr.drew=w5 at *;refine Rd.sf (.slice (some ⟨bG,0,none⟩) L.length L.length) ?_;refine Rd.sg (.agg #[.int .i64 r,.int .i64 m,.slice (some ⟨bg,0,none⟩) L.length c]) ?_ (y:=fun X hX=>by have hx:=HCX.out X hX;have hc0:=hx.1;have hc1:=hx.2.1;have hc2:=hx.2.2.1;clear hx hX;go_simp);refine Rd.sf (.slice (some ⟨bc,0,none⟩) cs.length vc) ?_;refine Rd.sf (.int .i64 (t:Int)) ?_;refine Rd.sf (.pointer (some ⟨bc,t*4,none⟩)) ?_;refine Rd.sf (.pointer (some ⟨bc,t*4+2,none⟩)) ?_;refine Rd.sg (.int .i64 y2) ?_ (y:=fun X hX=>by have hx:=HCX.out X hX;have hc0:=hx.2.2.2.1;clear hx hX;go_simp);refine Rd.sf (.slice (some ⟨bv,0,none⟩) cs.length vcap) ?_;refine Rd.sf (.int .i64 (t:Int)) ?_;refine Rd.sf (.pointer (some ⟨bv,t*2,none⟩)) ?_;refine Rd.sg (.agg #[.slice p.a p.n p.c,.slice q.a q.n q.c]) ?_ (y:=fun X hX=>by have hx:=HCX.out X hX;have hc0:=hx.2.2.2.2.2.1;have hc1:=hx.2.2.2.2.2.2;clear hx hX;go_simp);refine Rd.sm fun K hK=>?_
              go_simp;refine(HAT.out y2 w5 (HRW.s.bel.trans (hX.mono HRW.s.bel.size))).mono ?_;rintro e w6 ⟨rfl,hb⟩;rw[HPY.out];replace hX:=hX.tr hb;clear hb;refine hK _ _ (fun _=>hX) ?_;clear hK K;refine Rd.sf (.pointer (some ⟨bG,py*2,none⟩)) ?_;refine Rd.sm fun K hK=>?_
              refine p7 _ _ rfl p q py rfl rfl (HRW.below hX) hpy (HRK.below hX) (fun w7 hR7=>?_);refine hK _ _ (fun h=>absurd h BD) ?_;refine Rd.seq_end ?_
              go_wp2_with fail
              go_round
              case rel=>exact⟨t+1,A3,BH,Hd (hR7.congr (fun j _ h=>by
                rw[Bool.or_eq_true] at h ⊢;exact h.imp id (HWL.out j)) (fun k _ h=>by
                rw[Bool.or_eq_true] at h;rcases h with h | h
                ·simp[h]
                ·rcases HWG.out k h with h | h<;>simp[h]))⟩
              case measure=>simp[intOf];omega
             ·have hlc:cs.length=(kg L ls y).length+(kl ls y).length:=by rw[HCS.out];simp[chs]
              obtain⟨s,hs⟩: ∃s,t=(kg L ls y).length+s:=⟨t - (kg L ls y).length,A3⟩
              have hsl:s<(kl ls y).length:=A3
              have hkr:=tS (L:=L) (root:=root) x hsl;have hck:=yg (L:=L) (ls:=ls) hsl;obtain⟨py,hpy0⟩: ∃z,z=(kl ls y).getD s 0:=⟨_,rfl⟩
              rw[←hs,←hpy0,←HRS.out] at hkr;rw[←hs,←hpy0,←HCS.out] at hck;have hpy:=hkr.2;clear hpy0 hs hsl hlc htk;rw[hck] at x2 x3;replace x2:wr.cell? ⟨bc,t*4+2,none⟩=some (.int .i64 0):=x2;replace x3:wr.cell? ⟨bc,t*4+3,none⟩=some (.int .i64 (py:Int)):=x3;have HRK:Hid (RK wr p q (FLf py)):=Hd (by
               rw[HFL.out,←hkr.1];exact hRK)
              have HWL:Hid (∀j,wl cs (t+1) j=true→wl cs t j=true∨j=py):=Hd fun j h=>by
               rw[r3 hlt3,hck] at h;simp only[chL,Bool.or_eq_true,Bool.and_eq_true] at h;rcases h with h | h
               ·exact .inl h
               ·exact .inr (by have:=of_decide_eq_true h.2;omega)
              have HWG:Hid (∀k,wg L cs (t+1) k=true→wg L cs t k=true):=Hd fun k h=>by
               rw[rP hlt3,hck] at h;simpa[chL] using h
              have HCX:Hid (∀X,Below wr.heap.size wr X→X.cell? ⟨w.heap.size,0,none⟩=some (.int .i64 r)∧X.cell? ⟨w.heap.size,1,none⟩=some (.int .i64 m)∧X.cell? ⟨w.heap.size,2,none⟩=some (.slice (some ⟨bg,0,none⟩) L.length c)∧X.cell? ⟨bc,t*4+2,none⟩=some (.int .i64 0)∧X.cell? ⟨bc,t*4+3,none⟩=some (.int .i64 (py:Int))∧X.cell? ⟨bv,t*2,none⟩=some (.slice p.a p.n p.c)∧X.cell? ⟨bv,t*2+1,none⟩=some (.slice q.a q.n q.c)):=Hd fun X hX=>by
               exact Ao
              clear hkr hck y0 y1 x3 hbc hbv hRK
              go_wp2_with fail
              clear x2;refine Rd.rg (fun X=>Below wr.heap.size wr X) 11 [0,1,2,3,4,5,6,7,8,9,10] [0,1,2,3,4,5,6,7,8,9,10,11] hX ?_;generalize wr.drew=w5 at *;refine Rd.sf (.slice (some ⟨bL,0,none⟩) ls.length ls.length) ?_;refine Rd.sf (.slice (some ⟨bc,0,none⟩) cs.length vc) ?_;refine Rd.sf (.int .i64 (t:Int)) ?_;refine Rd.sf (.pointer (some ⟨bc,t*4,none⟩)) ?_;refine Rd.sf (.pointer (some ⟨bc,t*4+3,none⟩)) ?_;refine Rd.sg (.int .i64 (py:Int)) ?_ (y:=fun X hX=>by have hx:=HCX.out X hX;have hc0:=hx.2.2.2.2.1;clear hx hX;go_simp);refine Rd.sf (.slice (some ⟨bv,0,none⟩) cs.length vcap) ?_;refine Rd.sf (.int .i64 (t:Int)) ?_;refine Rd.sf (.pointer (some ⟨bv,t*2,none⟩)) ?_;refine Rd.sg (.agg #[.slice p.a p.n p.c,.slice q.a q.n q.c]) ?_ (y:=fun X hX=>by have hx:=HCX.out X hX;have hc0:=hx.2.2.2.2.2.1;have hc1:=hx.2.2.2.2.2.2;clear hx hX;go_simp);refine Rd.sf (.pointer (some ⟨bL,py*2,none⟩)) ?_;refine Rd.sm fun K hK=>?_
              refine pW _ _ rfl p q py rfl rfl (HRW.below hX) hpy (HRK.below hX) (fun w7 hR7=>?_);refine hK _ _ (fun h=>absurd h BD) ?_;refine Rd.seq_end ?_
              go_wp2_with fail
              go_round
              case rel=>exact⟨t+1,A3,BH,Hd (hR7.congr (fun j _ h=>by
                rw[Bool.or_eq_true] at h;rcases h with h | h
                ·simp[h]
                ·rcases HWL.out j h with h | h<;>simp[h]) (fun k _ h=>by
                rw[Bool.or_eq_true] at h ⊢;exact h.imp id (HWG.out k)))⟩
              case measure=>simp[intOf];omega
            ·have et:t=cs.length:=A3
             subst et;have HN:Hid (Sd w2 wr bL bG ls.length L.length FLf FGf (tl L ls (d:Int) (i+1)) (tg L ls root (d:Int) (i+1))):=Hd (HRW.s.congr (fun j hj h=>by
              rcases xD HF.out hj h with h1 | h1
              ·simp[h1]
              ·rw[←HY.out] at h1;have h2:=yM (L:=L) h1;rw[←HCS.out] at h2;simp[h2]) (fun k hk h=>by
              rcases yb HF.out hk h with h1 | h1
              ·simp[h1]
              ·rw[←HY.out] at h1;have h2:=yL HF.ok h1;rw[←HCS.out] at h2;simp[h2]))
             clear HRW
             go_wp2_with fail
             go_round
             case rel=>exact⟨i+1,A3,BH,HN⟩
             case measure=>simp[intOf];omega
        ·have hdq:(dep L y==(d:Int))=false:=by simpa using hde
         have HN:Hid (Sd w2 wr bL bG ls.length L.length FLf FGf (tl L ls (d:Int) (i+1)) (tg L ls root (d:Int) (i+1))):=Hd (HS.congr (fun j hj h=>rn HF.out hlt hj (.inr (by rw[←HY.out];exact hde)) h) (fun k hk h=>rZ HF.out hlt (.inr (by rw[←HY.out];exact hde)) h));obtain⟨dy,hdy⟩: ∃z,z=dep L y:=⟨_,rfl⟩
         rw[←hdy] at hdq;have HDY:=Hd hdy;clear HS HY hde hdy
         go_wp2_with (first
          | (go_at_call 16;refine(HBE.out y wr hhy HN.bel).mono ?_;rintro e w5 ⟨rfl,hb⟩;rw[hbe];have HN2:=Hd (HN.below hb);clear hb t0 t1 t2 hid;have hc:=HC.out w5 HN2.bel;have t0:=hc.1;have t1:=hc.2.1;have t2:=hc.2.2;clear hc)
          | (go_at_call 31;refine(HDE.out y w5 hhy HN2.bel).mono ?_;rintro e w6 ⟨rfl,hb⟩;rw[←HDY.out];have HN3:=Hd (HN2.below hb);clear hb t0 t1 t2))
         go_round
         case rel=>exact⟨i+1,A3,BH,HN3⟩
         case measure=>simp[intOf];omega
       ·have hbf:ag L y root=false:=by simpa using hbe
        have HN:Hid (Sd w2 wr bL bG ls.length L.length FLf FGf (tl L ls (d:Int) (i+1)) (tg L ls root (d:Int) (i+1))):=Hd (HS.congr (fun j hj h=>rn HF.out hlt hj (.inl (by rw[←HY.out];exact hbf)) h) (fun k hk h=>rZ HF.out hlt (.inl (by rw[←HY.out];exact hbf)) h));clear HS HY hbe
        go_wp2_with (first | (go_at_call 16;refine(HBE.out y wr hhy HN.bel).mono ?_;rintro e w5 ⟨rfl,hb⟩;rw[hbf];have HN2:=Hd (HN.below hb);clear hb t0 t1 t2 hid))
        go_round
        case rel=>exact⟨i+1,A3,BH,HN2⟩
        case measure=>simp[intOf];omega
      ·have ei:i=L.length:=A3
       subst ei;have HN:Hid (Sd w2 wr bL bG ls.length L.length FLf FGf (tl L ls ((d+1:Nat):Int) 0) (tg L ls root ((d+1:Nat):Int) 0)):=Hd (HS.congr (fun j hj h=>xX HF.out hj BM) (fun k hk h=>yq HF.out BM));clear HS
       go_wp2_with fail
       go_round
       case rel=>exact⟨d+1,A3,A3,BH,HN⟩
       case measure=>simp[intOf];omega
    ·have ed:d=9:=A3
     subst ed;have hL:=(HS.l.congr (T':=fun _=>true) (fun j _ _=>yN HF.out BD)).rowK;have hG:=HS.g.congr (T':=fun k=>ag L (idk L k) root) (fun k _ h=>yK HF.out BD h);have hB:=HBW.out _ HS.bel;have HH:=Hd (And.intro hL (And.intro hG hB));clear hL hG hB HS
     go_wp2_with fail
     go_ret3
     rw[HFG.out] at HH;rw[HFG.out];exact⟨⟨_,bG,rfl,HH.1,HH.2.1⟩,HH.2.2⟩
theorem Mv.len {w:World} {b n:Nat} {G:Int→Option Value} (h:Mv w b n G) {t e:TypeId} (ht:Tryz.prog.underlying t=some (.map 3 e)) {l:List Int} (hl:l.Nodup) (hG: ∀x,(G x).isSome=true↔x∈l) (ty:TypeId):
  (Builtin.len_ #[t] ty #[.map (some b)]).run Tryz.prog w= .ok (.int .i64 (l.length:Int)) w:=by
 obtain⟨D,hown,_,hat⟩:=h;rw[hown.len ht ty];have hD: ∀x:Int,Maps.has D (.int .i64 x)=(G x).isSome:=fun x=>by
  cases hx:G x with
  | none=>exact has_false_of_atKey fun z=>by rw[hat,hx]
  | some c=>exact has_true_of_atKey (y:=.held c) fun z=>by rw[hat,hx]
 obtain⟨es2,e2,hp⟩:=hown.tidy mO;obtain⟨es,clock,hb,F,_,e1⟩:=hown;subst e2;replace e1:=DataW.map.inj e1;have hk: ∀p∈es2,∃x,p.1=Lit.int .i64 x:=fun p hp0=>by
  rw[e1] at hp0;obtain⟨x,hx,rfl⟩:=List.mem_map.1 ((WideShapes.sorted_perm _).mem_iff.1 hp0);obtain⟨y,hy⟩:=F.reads x hx;rw[WideElems.rg_of hy];obtain⟨z,_,ez,_⟩:=Maps.keyOf_int_inv Tryz.underlying3 (WideElems.rd_key hy);exact⟨z,ez⟩
 have hm:(es2.map Prod.fst).Perm (l.map (Lit.int .i64)):=(List.perm_ext_iff_of_nodup (List.pairwise_map.2 hp) (List.pairwise_map.2 (hl.imp fun hne he=>hne (by injection he)))).2 fun k=>by
  constructor
  ·intro hkm;obtain⟨p,hp0,rfl⟩:=List.mem_map.1 hkm;obtain⟨x,hx⟩:=hk p hp0;have h1:Maps.has (.map es2:DataW Value) (.int .i64 x)=true:=List.any_eq_true.2 ⟨p,hp0,by rw[hx];exact WideAt.sameKey_self (show WideAt.IsKeyLit (.int .i64 x) from trivial)⟩;rw[hD] at h1;rw[hx];exact List.mem_map.2 ⟨x,(hG x).1 h1,rfl⟩
  ·intro hkm;obtain⟨x,hx,rfl⟩:=List.mem_map.1 hkm;have h1:=(hG x).2 hx;rw[←hD] at h1;obtain⟨p,hp0,hs⟩:=List.any_eq_true.1 h1;exact List.mem_map.2 ⟨p,hp0,WideAt.sameKey_eq hs⟩
 have h2:=hm.length_eq;rw[List.length_map,List.length_map] at h2;show Result.ok (Value.int .i64 ((es2.length:Nat):Int)) w=_;rw[h2]
section
variable {ops:Array Oper} {rest:List Oper} {o:Oper} {a:Act} {w:World} {Q:Exit→Act→World→Prop}
theorem oW (hg:o.guard=none) (m:Operand) {t e:TypeId} (hop:o.op=Op.call { callee:=Callee.builtin Builtin.len,args:= #[m],argTypes:= #[t] }) (ht:Tryz.prog.underlying t=some (.map 3 e)) {b n:Nat} {G:Int→Option Value} (hm:a.eval m= .map (some b)) (h:Mv w b n G)
  {l:List Int} (hl:l.Nodup) (hG: ∀x,(G x).isSome=true↔x∈l) (hK:wpList Tryz.prog ops Q rest (a.put o.dst (.int .i64 (l.length:Int))) w):wpList Tryz.prog ops Q (o::rest) a w:=by
 refine wpList_plain hg fun K' hK'=>?_
 unfold Oper.wp;simp[execOp,hop,resolve,invoke,builtin,hm,h.len ht hl hG o.type,Result.andThen];exact hK' _ _ hK
theorem oc (hg:o.guard=none) (m:Operand) {t e:TypeId} (hop:o.op=Op.call { callee:=Callee.builtin Builtin.len,args:= #[m],argTypes:= #[t] }) (ht:Tryz.prog.underlying t=some (.map 3 e)) (hm:a.eval m= .map none)
  (hK:wpList Tryz.prog ops Q rest (a.put o.dst (.int .i64 0)) w):wpList Tryz.prog ops Q (o::rest) a w:=by
 refine wpList_plain hg fun K' hK'=>?_
 unfold Oper.wp;simp[execOp,hop,resolve,invoke,builtin,hm,Maps.len_nil ht o.type,Result.andThen];exact hK' _ _ hK
end
section
variable {L:List Gr} {ls:List Lf} {root:Int}
def gs (L:List Gr) (ls:List Lf) (root:Int) (i:Nat):List Int:=(bK (L.take i)).filter fun y=>ag L y root&&decide (0<many L ls y)
theorem oC {i:Nat} (h:i<L.length):bK (L.take (i+1))=bK (L.take i)++[idk L i]:=by
 unfold bK idk;rw[List.take_add_one,List.map_append,List.getElem?_eq_getElem h,List.getD_eq_getElem?_getD,List.getElem?_eq_getElem h];rfl
theorem AZ {p:Prop} (h:p:=by unfold gs;rw[oC h,List.filter_append,List.length_append];simp only[List.filter_cons,List.filter_nil];rw[hs];rfl):p:=h
theorem zh {i:Nat} (h:i<L.length) (hs:(ag L (idk L i) root&&decide (0<many L ls (idk L i)))=true):(gs L ls root (i+1)).length=(gs L ls root i).length+1:=by
 exact AZ
theorem yu {i:Nat} (h:i<L.length) (hs:(ag L (idk L i) root&&decide (0<many L ls (idk L i)))=false):(gs L ls root (i+1)).length=(gs L ls root i).length:=by
 exact AZ
theorem yW (i:Nat):(gs L ls root i).length≤i:=by
 unfold gs bK;refine Nat.le_trans (List.length_filter_le _ _) ?_;rw[List.length_map,List.length_take];omega
theorem uH {m k0:Int} (ok:Ok L m k0):(gs L ls root L.length).Nodup:=by
 unfold gs;rw[List.take_length];exact(dE ok.rise).filter _
theorem yQ {y:Int}:y∈gs L ls root L.length↔(ag L y root&&decide (0<many L ls y))=true:=by
 unfold gs;rw[List.take_length,List.mem_filter];constructor
 ·exact fun h=>h.2
 ·intro h;have h1:=h;simp only[Bool.and_eq_true] at h1;exact⟨cN.1 (az h1.1),h⟩
end
end Go.Proofs.YtohifgjeebhijaaGreatDoor
