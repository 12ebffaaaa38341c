import Derived.ProofKit
import Derived.SizedLaws
import Derived.Lib.SmallJoins
import Derived.LaidMore
import Derived.Lay
import Derived.SevenTiedAt
import Derived.Deep.Grids
import Derived.Test.YtohifgjeebhijaaGreatDoorVGg
import Derived.Test.YtohifgjeebhijaaGreatDoorRows
namespace Go.Proofs.YtohifgjeebhijaaGreatDoor
set_option maxRecDepth 100000
open Go.ChangeShapes Go.WideShapes Go.ChangeAt Go.RowKit Go.Joins
theorem own:ownKnob Tryz.prog.godebug=none:=Ct
theorem yc:laidOutB Tryz.prog=true:=Ct
abbrev j6:List (String×DataW Unit):=[("unicode/utf8.acceptRanges",Rows.laid_unicode_utf8_acceptRanges),("unicode/utf8.first",Rows.laid_unicode_utf8_first)]
theorem ng {H:Type} {enc:TypeId×Value→H} {P:Program} {W:World} {fuel:Nat} {v:Value} {y:DataW H×List MemPlace} {t e:TypeId} {f0 f1 f2:Field} (ht:P.underlying t=some (.slice e)) (he:P.underlying e=some (.struct #[f0,f1,f2])) (hc:P.cellsOf e=3)
  (o0:f0.offset=0) (o1:f1.offset=1) (o2:f2.offset=2) (k0:P.cellsOf f0.type=1) (k1:P.cellsOf f1.type=1) (k2:P.cellsOf f2.type=1) (hf:DataW.trod enc P W 0 (fun _=>true) true fuel t [v]=some y):
  v= .slice none 0 0∨∃(a:Addr) (len cap:Nat),v= .slice (some a) len cap∧len≤cap∧∀i,i<len→∃c0 c1 c2 y0 y1 y2 n,W.cell? (a.add (i*3))=some c0∧W.cell? ((a.add (i*3)).add 1)=some c1∧W.cell? ((a.add (i*3)).add 2)=some c2∧
   DataW.trod enc P W 0 (fun _=>true) true n f0.type [c0]=some y0∧DataW.trod enc P W 0 (fun _=>true) true n f1.type [c1]=some y1∧DataW.trod enc P W 0 (fun _=>true) true n f2.type [c2]=some y2:=by
 rcases DataW.trod_slice ht hf with ⟨hcs,_⟩ | ⟨a,len,cap,elems,rest,n,_,hcs,_,_,hl,_,hlen,hel,_⟩
 ·left;simpa using hcs
 ·right;refine⟨a,len,cap,by simpa using hcs,hl,fun i hi=>?_⟩;have h1:=hel i hi;rw[hc] at h1;have h2:elems[i]? =some elems[i]:=List.getElem?_eq_getElem A3;rw[h2,Option.bind_eq_some_iff] at h1;obtain⟨cs,hcs,hy⟩:=h1;obtain⟨_,hl2,hcell⟩:=World.cells?_some hcs
  match cs,hl2 with
  | [c0,c1,c2],_=>
   obtain⟨y0,y1,y2,m,_,_,h3,h4,h5⟩:=Go.Deep.trod_struct3 he hy;rw[o0,k0] at h3;rw[o1,k1] at h4;rw[o2,k2] at h5;refine⟨c0,c1,c2,y0,y1,y2,m,?_,hcell 1 A3,hcell 2 A3,by simpa using h3,by simpa using h4,by simpa using h5⟩;have:=hcell 0 A3;simpa[Addr.add] using this
theorem pQ {H:Type} {enc:TypeId×Value→H} {P:Program} {W:World} {fuel:Nat} {v:Value} {y:DataW H×List MemPlace} {t e:TypeId} {f0 f1:Field} (ht:P.underlying t=some (.slice e)) (he:P.underlying e=some (.struct #[f0,f1])) (hc:P.cellsOf e=2)
  (o0:f0.offset=0) (o1:f1.offset=1) (k0:P.cellsOf f0.type=1) (k1:P.cellsOf f1.type=1) (hf:DataW.trod enc P W 0 (fun _=>true) true fuel t [v]=some y):
  v= .slice none 0 0∨∃(a:Addr) (len cap:Nat),v= .slice (some a) len cap∧len≤cap∧∀i,i<len→∃c0 c1 y0 y1 n,W.cell? (a.add (i*2))=some c0∧W.cell? ((a.add (i*2)).add 1)=some c1∧
   DataW.trod enc P W 0 (fun _=>true) true n f0.type [c0]=some y0∧DataW.trod enc P W 0 (fun _=>true) true n f1.type [c1]=some y1:=by
 rcases DataW.trod_slice ht hf with ⟨hcs,_⟩ | ⟨a,len,cap,elems,rest,n,_,hcs,_,_,hl,_,hlen,hel,_⟩
 ·left;simpa using hcs
 ·right;refine⟨a,len,cap,by simpa using hcs,hl,fun i hi=>?_⟩;have h1:=hel i hi;rw[hc] at h1;have h2:elems[i]? =some elems[i]:=List.getElem?_eq_getElem A3;rw[h2,Option.bind_eq_some_iff] at h1;obtain⟨cs,hcs,hy⟩:=h1;obtain⟨_,hl2,hcell⟩:=World.cells?_some hcs
  match cs,hl2 with
  | [c0,c1],_=>
   obtain⟨y0,y1,m,_,_,h3,h4⟩:=trod_struct2 he hy;rw[o0,k0] at h3;rw[o1,k1] at h4;refine⟨c0,c1,y0,y1,m,?_,hcell 1 A3,by simpa using h3,by simpa using h4⟩;have:=hcell 0 A3;simpa[Addr.add] using this
theorem qb {H:Type} {enc:TypeId×Value→H} {W:World} {v:Value} {y:DataW H×List MemPlace} {fuel:Nat} (hf:DataW.trod enc Tryz.prog W 0 (fun _=>true) true fuel 22 [v]=some y):
  ∃l:List (Nat×Int×Int),gE W v l:=by
 rcases ng Tryz.underlying22 Tryz.underlying70 Ct rfl rfl rfl Ct Ct Ct hf with rfl | ⟨a,len0,cap0,rfl,_,hc⟩
 ·exact⟨[],⟨none,0,rfl,fun h=>absurd rfl h,fun j=>by simp[a0,I64]⟩⟩
 ·have hx: ∀i,i<len0→∃x:Nat×Int×Int,W.cell? (a.add (i*3))=some (.int .u8 (x.1:Int))∧W.cell? ((a.add (i*3)).add 1)=some (.int .i64 x.2.1)∧W.cell? ((a.add (i*3)).add 2)=some (.int .i64 x.2.2)∧I64 x.2.1∧I64 x.2.2:=by
   intro i hi;obtain⟨c0,c1,c2,y0,y1,y2,n,h0,h1,h12,h2,h3,h4⟩:=hc i hi;obtain⟨m,e0,_,wm⟩:=DataW.trod_int Tryz.underlying5 h2;obtain⟨u,e1,_,w1⟩:=DataW.trod_int Tryz.underlying3 h3;obtain⟨u2,e2,_,w2⟩:=DataW.trod_int Tryz.underlying3 h4;simp at e0 e1 e2;subst e0 e1 e2;have:=bounds_u8 wm;exact⟨(m.toNat,u,u2),by rw[h0,Int.toNat_of_nonneg A3],h1,h12,d5 w1,d5 w2⟩
  obtain⟨b,off,spot⟩:=a;have hget: ∀j (hj:j<len0),((List.range len0).map fun i=>if h:i<len0 then Classical.choose (hx i h) else a0).getD j a0=Classical.choose (hx j hj):=fun j hj=>by simp[List.getD,hj]
  refine⟨(List.range len0).map fun i=>if h:i<len0 then Classical.choose (hx i h) else a0,⟨some ⟨b,off,spot⟩,cap0,B4,fun hne=>?_,fun j=>?_⟩⟩
  case refine_2=>
   by_cases hj:j<len0
   ·rw[hget j hj];have hs:=Classical.choose_spec (hx j hj);exact⟨hs.2.2.2.1,hs.2.2.2.2⟩
   ·simp[List.getD,hj,a0,I64]
  have hpos:0<len0:=by
   rcases Nat.eq_zero_or_pos len0 with h0 | h0
   ·subst h0;simp at hne
   ·exact h0
  have hs0:=Classical.choose_spec (hx 0 hpos);have hspot:spot=none:=by simpa[Addr.add] using World.cell?_spot hs0.1
  subst hspot;refine⟨b,off,rfl,World.block_lt_of_cell? W _ hs0.1,fun j hj=>?_⟩;simp only[List.length_map,List.length_range] at hj;have hs:=Classical.choose_spec (hx j hj);rw[hget j hj];refine⟨?_,?_,?_⟩
  ·rw[←Go.WideShapes.add_plain b off (j*3)];exact hs.1
  ·rw[←Go.WideShapes.add_plain b (off+j*3) 1,←Go.WideShapes.add_plain b off (j*3)];exact hs.2.1
  ·rw[←Go.WideShapes.add_plain b (off+j*3) 2,←Go.WideShapes.add_plain b off (j*3)];exact hs.2.2.1
theorem nB {H:Type} {enc:TypeId×Value→H} {W:World} {v:Value} {y:DataW H×List MemPlace} {fuel:Nat} (hf:DataW.trod enc Tryz.prog W 0 (fun _=>true) true fuel 23 [v]=some y):
  ∃ls:List Lf,cu W v ls:=by
 rcases pQ Tryz.underlying23 Tryz.underlying64 Ct rfl rfl Ct Ct hf with rfl | ⟨a,len0,cap0,rfl,_,hc⟩
 ·exact⟨[],⟨none,0,rfl,fun h=>absurd rfl h,fun j=>by simp[lf,I64]⟩⟩
 ·have hx: ∀i,i<len0→∃x:Lf,W.cell? (a.add (i*2))=some (.int .i64 x.1)∧W.cell? ((a.add (i*2)).add 1)=some (.int .i64 x.2)∧I64 x.1∧I64 x.2:=by
   intro i hi;obtain⟨c0,c1,y0,y1,n,h0,h1,h2,h3⟩:=hc i hi;obtain⟨u,e1,_,w1⟩:=DataW.trod_int Tryz.underlying3 h2;obtain⟨u2,e2,_,w2⟩:=DataW.trod_int Tryz.underlying3 h3;simp at e1 e2;subst e1 e2;exact⟨(u,u2),h0,h1,d5 w1,d5 w2⟩
  obtain⟨b,off,spot⟩:=a;have hget: ∀j (hj:j<len0),lf ((List.range len0).map fun i=>if h:i<len0 then Classical.choose (hx i h) else (0,0)) j=Classical.choose (hx j hj):=fun j hj=>by simp[lf,List.getD,hj]
  refine⟨(List.range len0).map fun i=>if h:i<len0 then Classical.choose (hx i h) else (0,0),⟨some ⟨b,off,spot⟩,cap0,B4,fun hne=>?_,fun j=>?_⟩⟩
  case refine_2=>
   by_cases hj:j<len0
   ·rw[hget j hj];have hs:=Classical.choose_spec (hx j hj);exact⟨hs.2.2.1,hs.2.2.2⟩
   ·simp[lf,List.getD,hj,I64]
  have hpos:0<len0:=by
   rcases Nat.eq_zero_or_pos len0 with h0 | h0
   ·subst h0;simp at hne
   ·exact h0
  have hs0:=Classical.choose_spec (hx 0 hpos);have hspot:spot=none:=by simpa[Addr.add] using World.cell?_spot hs0.1
  subst hspot;refine⟨b,off,rfl,World.block_lt_of_cell? W _ hs0.1,fun j hj=>?_⟩;simp only[List.length_map,List.length_range] at hj;have hs:=Classical.choose_spec (hx j hj);rw[hget j hj];refine⟨?_,?_⟩
  ·rw[←Go.WideShapes.add_plain b off (j*2)];exact hs.1
  ·rw[←Go.WideShapes.add_plain b (off+j*2) 1,←Go.WideShapes.add_plain b off (j*2)];exact hs.2.1
theorem tR {H:Type} {enc:TypeId×Value→H} {W:World} {base:Nat} {v:Value} {d:DataW H} {p:List MemPlace} (hval:Value.okWide Tryz.prog W .any base 25 v) (h:DataW.Trod enc Tryz.prog W 0 (fun _=>true) true 25 v d p):
  ∃(va vl:Value) (root online:Int) (xs:List (Nat×Int×Int)) (ls:List Lf),v= .agg #[va,.int .i64 root,.int .i64 online,vl]∧gE W va xs∧cu W vl ls∧I64 root∧I64 online:=by
 obtain⟨v0,v1,v2,v3,y0,y1,y2,y3,n,rfl,-,-,h0,h1,h2,h3⟩:=open_agg4 Tryz.underlying25 Ct Ct hval h;obtain⟨a,e1,-,w1⟩:=DataW.trod_int Tryz.underlying3 h1;obtain⟨b,e2,-,w2⟩:=DataW.trod_int Tryz.underlying3 h2;simp at e1 e2;subst e1 e2;obtain⟨xs,hx⟩:=qb h0;obtain⟨ls,hl⟩:=nB h3;exact⟨v0,v3,a,b,xs,ls,rfl,hx,hl,d5 w1,d5 w2⟩
theorem xC (os:Os) (args:Array Value):laidMetH Tryz.prog j6 ((World.laidAll Tryz.prog os j6).forCall (fun _ _=>0) ⟨#[],args,[]⟩).memory:=by
 rw[MakeChecks.laidMetH_plain _ _ _ Ct];exact laidMet_laidAll _ Ct Ct
theorem qu (os:Os):World.Shaped Tryz.prog (World.laidAll Tryz.prog os j6):=World.shaped_of_ZipB Ct Ct
end Go.Proofs.YtohifgjeebhijaaGreatDoor
