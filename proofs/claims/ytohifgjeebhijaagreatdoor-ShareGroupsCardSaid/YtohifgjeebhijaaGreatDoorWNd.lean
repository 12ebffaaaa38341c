/-
  What this claim needs; no condition of its own. Told short by a script from longer texts.
-/
import Derived.Deep.LoopGhost
import Derived.Laws.BytesArg
import Derived.Test.YtohifgjeebhijaaGreatDoorWDa
import Derived.BigQuiet
import Derived.OwnWalk
import Derived.Laws.OwnMore
import Derived.Test.YtohifgjeebhijaaGreatDoorWRa
namespace Go.Proofs.YtohifgjeebhijaaGreatDoor
set_option maxRecDepth 100000
set_option maxHeartbeats 4000000
open Go.RowKit Go.Dig Go.Shelf Go.Proofs
def decs:Nat→Nat→List Nat
 | 0,_=>[]
 | k+1,n=>n % 10::decs k (n / 10)
theorem decs_len: ∀(k n:Nat),(decs k n).length=k
 | 0,_=>rfl
 | k+1,n=>by rw[decs,List.length_cons,decs_len k]
theorem decs_small: ∀(k n:Nat),Small 10 (decs k n)
 | 0,_=>Small.nil
 | k+1,n=>Small.cons (Nat.mod_lt _ (by omega)) (decs_small k _)
theorem decs_val: ∀(k n:Nat),val 10 (decs k n)=n % 10 ^ k
 | 0,n=>by simp[decs,val,Nat.mod_one]
 | k+1,n=>by
  rw[decs,val,decs_val k,Nat.pow_succ,Nat.mul_comm (10 ^ k) 10,Nat.mod_mul]
def encD (d:Nat):Value:=.int .u8 ((48+d:Nat):Int)
theorem Tryz.info5:(Tryz.prog.info? 5).map (fun i=>(i.zero,i.size,i.bytes))=some (some (.int .u8 0),1,1):=by kernel_rfl
theorem appendGroup_any (base:Nat) (v:Value) (ds:List Nat) (grp:Nat) (w:World) (h:w.ownsRow base 5 1 v ds.length (ds.map encD)) (hg:grp<18446744073709551616) (hl:ds.length≤100000) (hb:base≤w.heap.size):
  Calls Tryz.prog 93 #[v,.int .u64 (grp:Int)] w fun e w'=>∃v',e= .returned v'∧w'.ownsRow base 5 1 v' (ds++decs 19 grp).length ((ds++decs 19 grp).map encD)∧Below base w w':=by
 obtain⟨i0,hi,hz0,hz1,hz2⟩:=info_parts Tryz.info5
 generalize hX:ds++decs 19 grp=X
 have HX:=Lib.hid hX
 have HO:=Lib.hid h
 clear hX h
 go_enter Tryz.func93,Tryz.ntmps93
 go_wp2_with fail
 go_loopw [0,1,5] (fun a b c wr=>∃(i n:Nat) (es:List Nat),i≤19∧n<18446744073709551616∧b= .int .u64 (n:Int)∧c= .int .i64 (i:Int)∧wr.ownsRow base 5 1 a es.length (es.map encD)∧es.length=ds.length+i∧Hid (es++decs (19 - i) n=X)∧Below base w wr) (fun _ _ c _=>19 - (intOf c).toNat)
 case atStart=>exact⟨0,grp,ds,by omega,hg,rfl,rfl,HO.out,by omega,Lib.hid HX.out,Below.refl _ _⟩
 case round=>
  obtain⟨i,n,es,hi19,hn,rfl,rfl,hrow,hel,HE,hbl⟩:=hrel
  have hbs:=hbl.size
  by_cases hlt:i<19
  ·have HE2:Hid (Hid ((es++[n % 10])++decs (19 - (i+1)) (n / 10)=X)):=Lib.hid (Lib.hid (by rw[←HE.out,show 19 - i=(19 - (i+1))+1 by omega,decs];simp))
   clear HE
   have hdl:n / 10<18446744073709551616:=by omega
   have HC:Hid (48+(n:Int) % 10=((48+n % 10:Nat):Int)):=Lib.hid (by omega)
   go_wp2_with (at_builtin;refine wpList_append_own _ rfl _ _ 152 rfl base 5 i0 (.int .u8 0) 1 1 Tryz.underlying152 hi hz0 hz1 hz2 rfl (by decide) u0 _ _ rfl (hrow.alloc _) ⟨wr.heap.size,0,none⟩ 1 1 [.int .u8 (48+(n:Int) % 10)] rfl rfl (cell_one_new _ _ _) (by simp[Value.oneCell']) (by unfold maxLen;omega) (by omega) (by simp;omega) ?_;intro v2 w2 hown2 hgrow _)
   refine⟨⟨i+1,n / 10,es++[n % 10],by omega,hdl,rfl,by go_num,?_,by simp;omega,HE2.out,(hbl.alloc (by omega) _).grown hgrow (by simp;omega) (fun j ej=>(hrow.lt j ej).1)⟩,?_⟩
   ·rw[List.length_append,List.map_append]
    have e1:[n % 10].map encD=[.int .u8 (48+(n:Int) % 10)]:=by rw[HC.out];rfl
    rw[e1]
    exact hown2
   ·simp only[intOf];omega
  ·have h19:i=19:=by omega
   subst h19
   go_wp2_with fail
   go_ret
   have e:es=X:=by have:=HE.out;rw[Nat.sub_self,decs,List.append_nil] at this;exact this
   refine⟨_,rfl,?_,hbl⟩
   rw[←e]
   exact hrow
def RevI (ds c:List Nat) (i:Nat):Prop:=c.length=ds.length∧∀k,k<ds.length→c.getD k 0=if k<i∨ds.length - 1 - i<k then ds.getD (ds.length - 1 - k) 0 else ds.getD k 0
theorem RevI.zero (ds:List Nat):RevI ds ds 0:=⟨rfl,fun k hk=>by rw[if_neg (by omega)]⟩
theorem RevI.step {ds c:List Nat} {i:Nat} (h:RevI ds c i) (hi:i<ds.length - 1 - i):
  RevI ds ((c.set i (c.getD (ds.length - 1 - i) 0)).set (ds.length - 1 - i) (c.getD i 0)) (i+1):=by
 obtain⟨h1,h2⟩:=h
 refine⟨by simp[h1],fun k hk=>?_⟩
 have ei:=h2 i (by omega)
 have ej:=h2 (ds.length - 1 - i) (by omega)
 rw[if_neg (by omega)] at ei ej
 by_cases hkj:k=ds.length - 1 - i
 ·subst hkj
  rw[getD_set_lt (by simp[h1];omega),if_pos (by omega),ei]
  congr 1;omega
 ·rw[Go.Dig.getD_set_ne (fun e=>hkj e.symm)]
  by_cases hki:k=i
  ·subst hki
   rw[getD_set_lt (by rw[h1];omega),if_pos (by omega),ej]
  ·rw[Go.Dig.getD_set_ne (fun e=>hki e.symm),h2 k hk]
   by_cases hc:k<i∨ds.length - 1 - i<k
   ·rw[if_pos hc,if_pos (by omega)]
   ·rw[if_neg hc,if_neg (by omega)]
theorem RevI.done {ds c:List Nat} {i:Nat} (h:RevI ds c i) (hi:ds.length≤1+i+i):c=ds.reverse:=by
 obtain⟨h1,h2⟩:=h
 apply List.ext_getElem?
 intro k
 by_cases hk:k<ds.length
 ·have e:=h2 k hk
  have e1:c.getD k 0=c[k]:=by simp[List.getD,show k<c.length by omega]
  have e2:ds.getD (ds.length - 1 - k) 0=ds.reverse[k]'(by simpa using hk):=by
   simp[List.getD,show ds.length - 1 - k<ds.length by omega]
  rw[List.getElem?_eq_getElem (by omega),List.getElem?_eq_getElem (by simpa using hk),←e1,←e2,e]
  by_cases hc:k<i∨ds.length - 1 - i<k
  ·rw[if_pos hc]
  ·rw[if_neg hc,show ds.length - 1 - k=k by omega]
 ·rw[List.getElem?_eq_none (by omega),List.getElem?_eq_none (by simp;omega)]
theorem Reverse_nil (cap:Nat) (a:Option Addr) (w:World):Calls Tryz.prog 95 #[.slice a 0 cap] w fun e w'=>e= .returned (.tuple #[])∧w=w':=by
 go_enter Tryz.func95,Tryz.ntmps95
 go_wp2_with fail
 go_loop [2,3] (fun a b=>a= .int .i64 0∧b= .int .i64 (-1)) (fun _ _=>0)
 case atStart=>exact⟨rfl,rfl⟩
 case round=>
  obtain⟨rfl,rfl⟩:=hrel
  go_wp2_with fail
  go_end0
  exact⟨rfl,rfl⟩
theorem Reverse_any (base g cap:Nat) (ds:List Nat) (w:World) (h:w.ownsRow base 5 1 (.slice (some ⟨g,0,none⟩) ds.length cap) ds.length (ds.map encD)) (hl:ds.length≤100000) (hp:0<ds.length):
  Calls Tryz.prog 95 #[.slice (some ⟨g,0,none⟩) ds.length cap] w fun e w'=>e= .returned (.tuple #[])∧w'.ownsRow base 5 1 (.slice (some ⟨g,0,none⟩) ds.length cap) ds.length (ds.reverse.map encD)∧Fr (· =g) w w':=by
 obtain⟨n,hn⟩: ∃n,n=ds.length:=⟨_,rfl⟩
 rw[←hn] at h hl hp ⊢
 have HN:=Lib.hid hn
 have HO:=Lib.hid h
 have hcap:n≤cap:=by
  rcases h.2 with ⟨h',_⟩ | ⟨g',cap',cur,h',hb,hg,h1,_⟩
  ·cases h'
  ·cases h';exact h1
 clear h hn
 go_enter Tryz.func95,Tryz.ntmps95
 go_wp2_with fail
 go_loopw [2,3] (fun a b wr=>∃(i:Nat) (c:List Nat),a= .int .i64 (i:Int)∧b= .int .i64 ((n:Int) - 1 - i)∧i≤n∧Hid (RevI ds c i)∧wr.ownsRow base 5 1 (.slice (some ⟨g,0,none⟩) n cap) n (c.map encD)∧Fr (· =g) w wr) (fun a _ _=>n - (intOf a).toNat)
 case atStart=>exact⟨0,ds,rfl,by go_num,by omega,Lib.hid (RevI.zero ds),HO.out,Fr.refl _ _⟩
 case round=>
  obtain⟨i,c,rfl,rfl,hin,HR,hO,hF⟩:=hrel
  by_cases hlt:i<n - 1 - i
  ·obtain⟨j,hj⟩: ∃j,j=n - 1 - i:=⟨_,rfl⟩
   have hji:(n:Int) - 1 - i=(j:Int):=by omega
   have HR2:=Lib.hid (Lib.hid (HR.out.step (by rw[←HN.out];exact hlt)))
   rw[←HN.out,←hj] at HR2
   have hcl:c.length=n:=by rw[HR.out.1,HN.out]
   have ci:wr.cell? ⟨g,i,none⟩=some (.int .u8 ((48+c.getD i 0:Nat):Int)):=by
    rw[hO.cellAt i (by omega)];simp[List.getD,show i<c.length by omega,encD]
   have cj:wr.cell? ⟨g,j,none⟩=some (.int .u8 ((48+c.getD j 0:Nat):Int)):=by
    rw[hO.cellAt j (by omega)];simp[List.getD,show j<c.length by omega,encD]
   have fi:=hO.frozenAt i
   have fj:=hO.frozenAt j
   have hjn:j<n:=by omega
   have hin2:i<n:=by omega
   generalize c.getD i 0=x at ci HR2
   generalize c.getD j 0=y at cj HR2
   have hij:i<j:=by omega
   have HJ:=Lib.hid hji
   clear hj HR hlt
   rw[hji]
   clear hji
   have HS:=Lib.hid (hO.stored i (.int .u8 (48+(y:Int))))
   have HT:=Lib.hid (HS.out.1.stored j (.int .u8 (48+(x:Int))))
   go_wp2_with fail
   go_region
   have hO2:=HT.out.1.drew
   have hF2:Fr (· =g) w ((wr.setCell ⟨g,i,none⟩ (.int .u8 (48+(y:Int)))).setCell ⟨g,j,none⟩ (.int .u8 (48+(x:Int)))).drew:=((hF.setCell (.inr rfl) _).setCell (.inr rfl) _).drew
   clear HS HT ci cj fi fj hO hF
   generalize ((wr.setCell ⟨g,i,none⟩ (.int .u8 (48+(y:Int)))).setCell ⟨g,j,none⟩ (.int .u8 (48+(x:Int)))).drew=W2 at hO2 hF2 ⊢
   go_wp2_with fail
   go_round
   case rel=>
    refine⟨i+1,_,by go_num,by have:=HJ.out;go_num,by omega,HR2.out,?_,hF2⟩
    have e:((c.set i y).set j x).map encD=((c.map encD).set i (.int .u8 (48+(y:Int)))).set j (.int .u8 (48+(x:Int))):=by
     rw[List.map_set,List.map_set];simp[encD]
    rw[e]
    exact hO2
   case measure=>simp[intOf];omega
  ·go_wp2_with fail
   go_end0
   refine⟨rfl,?_,hF⟩
   rw[←HR.out.done (by have:=HN.out;omega)]
   exact hO
end Go.Proofs.YtohifgjeebhijaaGreatDoor
namespace Go.Proofs.YtohifgjeebhijaaGreatDoor
open Go.RowKit Go.Dig Go.Shelf Go.Proofs
theorem Own64.keep {w w':World} {base g n cap:Nat} {l:List Nat} (h:Own64 w base g n cap l) (hb:w'.heap[g]? =w.heap[g]?):Own64 w' base g n cap l:=by
 refine⟨h.1,?_⟩
 rcases h.2 with ⟨h',_⟩ | ⟨g',cap',cur,h',hg,hh,rest⟩
 ·cases h'
 ·cases h';exact .inr ⟨g,cap,cur,rfl,hg,hb.trans hh,rest⟩
theorem strip_drop: ∀(s:List UInt8),Lib.trimLeftB s 48=strip s
 | []=>rfl
 | c::s=>by
  unfold strip
  by_cases h:c=48
  ·subst h;rw[if_pos rfl,←strip_drop s];rfl
  ·rw[if_neg h]
   unfold Lib.trimLeftB
   rw[List.dropWhile_cons_of_neg (by simpa using h)]
theorem strip_text {ds:List Nat} {n:Nat} (hs:Small 10 ds) (hv:val 10 ds=n) (h0:n≠0):strip (Dig.bytes ds)=text n:=by
 rw[strip_trim _ ds rfl hs,trim_dig (by omega) ds hs,hv]
 unfold text
 rw[if_neg h0]
theorem digits_str (ds:List Nat):strOfNums (ds.reverse.map fun d=>((48+d:Nat):Int))=⟨(Dig.bytes ds).toArray⟩:=by
 unfold strOfNums Dig.bytes
 rw[List.map_map]
 rfl
theorem conv_digits {w:World} {base g cap:Nat} {ds:List Nat} (h:w.ownsRow base 5 1 (.slice (some ⟨g,0,none⟩) ds.length cap) ds.length (ds.reverse.map encD)):
  (convert 152 9 (.slice (some ⟨g,0,none⟩) ds.length cap)).run Tryz.prog w= .ok (.string ⟨(Dig.bytes ds).toArray⟩) w:=by
 rw[←digits_str]
 refine run_convert_bytes_arg w 152 5 Tryz.underlying152 Tryz.underlying5 g 0 ds.length cap _ (by simp) (fun i hi=>?_) 9 Tryz.underlying9
 rw[Nat.zero_add,h.cellAt i (by omega)]
 simp[List.getD,hi,encD]
theorem pow_ten (k:Nat):2 ^ k≤10 ^ k:=Nat.pow_le_pow_left (by omega) k
theorem nText_zero (v:Value) (la:List Nat) (w:World) (h:RowU w v la) (s:SmallU la) (hl:la.length≤1000) (h0:V la=0):
  Calls Tryz.prog 58 #[v] w fun e w'=>e= .returned (.string ⟨(text (V la)).toArray⟩)∧Below w.heap.size w w':=by
 have R:=Lib.hid h
 obtain⟨ad,cap,rfl,hcap,-⟩:=h
 have HT:Hid (trimV ad cap la= .slice none 0 0):=Lib.hid (by unfold trimV;rw[trim_L s,h0];rfl)
 have H38:=Lib.hid (nTrim_any ad cap la w R.out (by omega))
 rw[HT.out] at H38
 have HX:Hid (text (V la)=[48]):=Lib.hid (by rw[h0];rfl)
 rw[HX.out]
 clear s h0
 go_enter Tryz.func58,Tryz.ntmps58
 go_wp2_with fail
 refine H38.out.mono ?_
 rintro e w1 ⟨rfl,hb1⟩
 go_wp2_with fail
 refine(Clone_nil w1).mono ?_
 rintro e w2 ⟨rfl,rfl⟩
 go_wp2_with fail
 go_loop [3,4] (fun a b=>a= .slice none 0 0∧b= .slice none 0 0) (fun _ _=>0)
 case atStart=>exact⟨rfl,rfl⟩
 case round=>
  obtain⟨rfl,rfl⟩:=hrel
  have hcv:=fun(w:World)=>run_convert_bytes_nil (P:=Tryz.prog) w 152 5 Tryz.underlying152 Tryz.underlying5 0 0 9 Tryz.underlying9
  go_wp2_with fail
  refine(Reverse_nil 0 none _).mono ?_
  rintro e w3 ⟨rfl,rfl⟩
  go_wp2_with fail
  refine(Tryz.strings_TrimLeft_one ByteArray.empty 48 (by decide) _).mono ?_
  rintro e w3 ⟨rfl,rfl⟩
  have he:(⟨(Lib.trimLeftB ByteArray.empty.data.toList 48).toArray⟩:ByteArray)=⟨#[]⟩:=rfl
  rw[he]
  go_wp2_with fail
  go_ret
  exact⟨rfl,hb1⟩
def RestV (W:World) (b0 g cap m:Nat) (v:Value):Prop:=(m=0∧v= .slice none 0 0)∨(m≠0∧v= .slice (some ⟨g,0,none⟩) (L m).length cap∧Own64 W b0 g (L m).length cap (L m))
theorem nText_more (v:Value) (la:List Nat) (w:World) (h:RowU w v la) (s:SmallU la) (hl:la.length≤1000) (h0:V la≠0):
  Calls Tryz.prog 58 #[v] w fun e w'=>e= .returned (.string ⟨(text (V la)).toArray⟩)∧Below w.heap.size w w':=by
 have R:=Lib.hid h
 obtain⟨ad,cap,rfl,hcap,-⟩:=h
 obtain⟨K,hK,hnl⟩: ∃K,K≤64000∧V la<2 ^ K:=by
  refine⟨64*la.length,by omega,?_⟩
  have h1:=val_lt (B:=18446744073709551616) (by omega) la s
  rwa [show (18446744073709551616:Nat)=2 ^ 64 from rfl,←Nat.pow_mul] at h1
 obtain⟨a1,c1,e1,r1⟩:=trimV_slice R.out
 have hlen:=trim_len la
 rw[trim_L s] at e1 r1 hlen
 have H38:=Lib.hid (nTrim_any ad cap la w R.out (by omega))
 rw[e1] at H38
 have Q1:=Lib.hid r1
 clear e1 r1 R
 generalize V la=n at *
 have hne:L n≠[]:=fun e=>h0 ((dig_nil (by omega) n).1 e)
 have H0:=Lib.hid h0
 have HNE:=Lib.hid hne
 have HNL:=Lib.hid hnl
 clear s h0 hne hnl
 go_enter Tryz.func58,Tryz.ntmps58
 go_wp2_with fail
 refine H38.out.mono ?_
 rintro e w1 ⟨rfl,hb1⟩
 go_wp2_with fail
 refine(Clone_any _ (L n) w1 (Q1.out.below hb1) HNE.out (by omega)).mono ?_
 rintro e w2 ⟨g,cp,rfl,hO2,hb2⟩
 have hB2:Below w.heap.size w w2:=hb1.trans (hb2.mono hb1.size)
 have hg2:=hO2.lt
 have hcp:=hO2.cap
 clear hb2 H38 Q1
 have hs1:=hb1.size
 go_wp2_with fail
 go_loopg [3,4] n (fun k a b wr=>∃(m:Nat) (ds:List Nat),m≤k∧wr.ownsRow w2.heap.size 5 1 a ds.length (ds.map encD)∧RestV wr w1.heap.size g cp m b∧Hid (Small 10 ds∧n=val 10 ds+10 ^ ds.length*m)∧Below w.heap.size w wr∧w2.heap.size≤wr.heap.size∧Hid (ds.length≤64019))
 case atStart=>exact⟨n,[],Nat.le_refl _,World.ownsRow_nil _ _ _ _,.inr ⟨H0.out,rfl,hO2⟩,Lib.hid ⟨Small.nil,by simp[val]⟩,hB2,Nat.le_refl _,Lib.hid (by simp)⟩
 case round=>
  obtain⟨m,ds,hmk,hD,hR,HI,hB,hsz,HDL⟩:=hrel
  rcases hR with ⟨rfl,rfl⟩ | ⟨hm,rfl,hO⟩
  ·
   have hv:val 10 ds=n:=by have:=HI.out.2;rw[Nat.mul_zero,Nat.add_zero] at this;exact this.symm
   have hdl:0<ds.length:=by
    apply Nat.pos_of_ne_zero
    intro e
    have e2:ds=[]:=List.eq_nil_of_length_eq_zero e
    rw[e2] at hv
    exact H0.out hv.symm
   have hdk:ds.length≤100000:=by have:=HDL.out;omega
   obtain⟨gd,cd,rfl⟩:=owns_form hD hdl
   have hgd:=(World.ownsRow.lt hD gd rfl).1
   have HST:=Lib.hid (strip_text HI.out.1 hv H0.out)
   clear hv HI
   go_wp2_with fail
   refine(Reverse_any w2.heap.size gd cd ds wr hD hdk hdl).mono ?_
   rintro e w3 ⟨rfl,hD3,hF3⟩
   have hcv:=conv_digits hD3
   have hB3:Below w.heap.size w w3:=hB.trans (hF3.below hB.size (fun k e=>by have:=hB2.size;omega))
   go_wp2_with fail
   refine(Tryz.strings_TrimLeft_one _ 48 (by decide) _).mono ?_
   rintro e w4 ⟨rfl,rfl⟩
   have he:(⟨(Lib.trimLeftB (⟨(Dig.bytes ds).toArray⟩:ByteArray).data.toList 48).toArray⟩:ByteArray)=⟨(text n).toArray⟩:=by
    rw[strip_drop,←HST.out]
   rw[he]
   have hnil:(text n).isEmpty=false:=by
    have:=text_pos n
    cases ht:text n with
    | nil=>rw[ht] at this;simp at this
    | cons a b=>rfl
   go_wp2_with fail
   go_ret
   exact⟨rfl,hB3⟩
  ·have hmpos:0<(L m).length:=List.length_pos_iff.2 (fun e=>hm ((dig_nil (by omega) m).1 e))
   have hgt:(((L m).length:Int)>0):=by omega
   have hlm:(L m).length≤1000:=by
    have h1:m≤n:=by
     have h2:=HI.out.2
     have h3:1*m≤10 ^ ds.length*m:=Nat.mul_le_mul_right _ (Nat.pow_pos (by omega))
     omega
    have h4:(L m).length≤(L n).length:=dig_mono (by omega) h1
    omega
   have hdk:ds.length≤64000:=by
    have h2:=HI.out.2
    have h3:10 ^ ds.length*1≤10 ^ ds.length*m:=Nat.mul_le_mul_left _ (by omega)
    have h4:=pow_ten ds.length
    have h5:2 ^ ds.length<2 ^ K:=by have:=HNL.out;omega
    have h6:=(Nat.pow_lt_pow_iff_right (by omega:1<2)).1 h5
    omega
   have HV:=Lib.hid (V_L m)
   have HI2:Hid (Small 10 (ds++decs 19 (m % 10000000000000000000))∧n=val 10 (ds++decs 19 (m % 10000000000000000000))+10 ^ (ds++decs 19 (m % 10000000000000000000)).length*(m / 10000000000000000000)):=Lib.hid (by
    obtain⟨i1,i2⟩:=HI.out
    refine⟨fun x hx=>?_,?_⟩
    ·rcases List.mem_append.1 hx with hx | hx
     ·exact i1 x hx
     ·exact decs_small _ _ x hx
    ·rw[val_append,decs_val,List.length_append,decs_len,Nat.pow_add,show 10 ^ 19=10000000000000000000 from rfl,Nat.mod_mod,Nat.add_assoc,Nat.mul_assoc,←Nat.mul_add,Nat.mod_add_div]
     exact i2)
   have hdl2:(ds++decs 19 (m % 10000000000000000000)).length=ds.length+19:=by rw[List.length_append,decs_len]
   have hlt:m / 10000000000000000000<m:=Nat.div_lt_self (by omega) (by omega)
   have hg64:m % 10000000000000000000<18446744073709551616:=Nat.lt_trans (Nat.mod_lt _ (by omega)) (by omega)
   clear HI
   go_wp2_with fail
   have H50:=divLimb_any w1.heap.size g (L m).length cp (L m) 10000000000000000000 wr hO (small_L m) (by omega) (by omega) (by omega)
   rw[HV.out] at H50
   refine H50.mono ?_
   rintro e w3 ⟨rfl,⟨q,hO3,hq3,hqv⟩,hF3⟩
   have hD3:w3.ownsRow w2.heap.size 5 1 u3 ds.length (ds.map encD):=hD.kept hF3.grown (by
    right
    intro e
    have:=(World.ownsRow.lt hD g e).1
    omega)
   have hB3:Below w.heap.size w w3:=hB.trans (hF3.below hB.size (fun k e=>by omega))
   have hs3:=hF3.size
   go_wp2_with fail
   refine(appendGroup_any w2.heap.size u3 ds (m % 10000000000000000000) w3 hD3 hg64 (by omega) (by omega)).mono ?_
   rintro e w4 ⟨v4,rfl,hD4,hb4⟩
   have hO4:Own64 w4 w1.heap.size g (L m).length cp q:=hO3.keep (hb4.block g (by omega))
   have hB4:Below w.heap.size w w4:=hB3.trans (hb4.mono (by have:=hB2.size;omega))
   have hs4:=hb4.size
   have hql:=hO4.len
   have T:=nTrim_any (some ⟨g,0,none⟩) cp q w4 (by rw[hql];exact hO4.row) (by omega)
   rw[hql] at T
   go_wp2_with fail
   refine T.mono ?_
   rintro e w5 ⟨rfl,hb5⟩
   have hs5:=hb5.size
   have hO5:=hO4.keep (hb5.block g (by have:=hO4.lt;omega))
   have hD5:=hD4.kept (w':=w5) (row:=none) ⟨hb5.os,hb5.tape,hb5.output,hb5.size,fun k hk _=>hb5.block k hk⟩ (by
    cases e9:v4.ownBlock
    ·exact .inl rfl
    ·exact .inr (by simp))
   have hB5:Below w.heap.size w w5:=hB4.trans (hb5.mono hB4.size)
   have hRV:RestV w5 w1.heap.size g cp (m / 10000000000000000000) (trimV (some ⟨g,0,none⟩) cp q):=by
    have ht:trim q=L (m / 10000000000000000000):=by rw[trim_L hq3,hqv]
    by_cases hz:m / 10000000000000000000=0
    ·left
     refine⟨hz,?_⟩
     unfold trimV
     rw[ht,hz];rfl
    ·right
     have hnn: ¬trim q=[]:=by rw[ht];exact fun e=>hz ((dig_nil (by omega) _).1 e)
     refine⟨hz,?_,?_⟩
     ·unfold trimV;rw[if_neg hnn,ht]
     ·have h9:=hO5.take (k:=(trim q).length) (by rw[←hql];exact trim_len q)
      rw[←trim_take,ht] at h9
      exact h9
   generalize trimV (some ⟨g,0,none⟩) cp q=v5 at hRV ⊢
   clear hO5 hO4 hO3 hO H50 T hql
   go_wp2_with fail
   go_roundg (m / 10000000000000000000)
   case measure=>omega
   case rel=>exact⟨_,_,Nat.le_refl _,hD5,hRV,HI2,hB5,by omega,Lib.hid (by omega)⟩
theorem nText_any (v:Value) (la:List Nat) (w:World) (h:RowU w v la) (s:SmallU la) (hl:la.length≤1000):
  Calls Tryz.prog 58 #[v] w fun e w'=>e= .returned (.string ⟨(text (V la)).toArray⟩)∧Below w.heap.size w w':=by
 by_cases h0:V la=0
 ·exact nText_zero v la w h s hl h0
 ·exact nText_more v la w h s hl h0
end Go.Proofs.YtohifgjeebhijaaGreatDoor
namespace Go.Proofs.YtohifgjeebhijaaGreatDoor
open Go.RowKit Go.Dig Go.Shelf Go.Proofs
def RowAd (w:World) (v:Value) (l:List Nat):Prop:=
 (v= .slice none 0 0∧l=[])∨∃ad cap,v= .slice (some ad) l.length cap∧l.length≤cap∧(l≠[]→∃b off,ad=⟨b,off,none⟩∧b<w.heap.size∧∀j,j<l.length→w.cell? ⟨b,off+j,none⟩=some (.int .u64 (l.getD j 0:Nat)))
theorem RowAd.row {w:World} {v:Value} {l:List Nat} (h:RowAd w v l):RowU w v l:=by
 rcases h with ⟨rfl,rfl⟩ | ⟨ad,cap,rfl,h1,h2⟩
 ·exact⟨_,_,rfl,Nat.le_refl _,fun h=>absurd rfl h⟩
 ·refine⟨_,cap,rfl,h1,fun hl=>?_⟩
  obtain⟨b,off,rfl,h3,h4⟩:=h2 hl
  exact⟨b,off,rfl,h3,h4⟩
theorem RowAd.below {w w':World} {v:Value} {l:List Nat} (h:RowAd w v l) (hb:Below w.heap.size w w'):RowAd w' v l:=by
 rcases h with h | ⟨ad,cap,rfl,h1,h2⟩
 ·exact .inl h
 ·refine .inr ⟨ad,cap,rfl,h1,fun hl=>?_⟩
  obtain⟨b,off,rfl,h3,h4⟩:=h2 hl
  exact⟨b,off,rfl,Nat.lt_of_lt_of_le h3 hb.size,fun j hj=>(hb.cell (p:=⟨b,off+j,none⟩) h3).trans (h4 j hj)⟩
end Go.Proofs.YtohifgjeebhijaaGreatDoor
namespace Go.Proofs.YtohifgjeebhijaaGreatDoor
open Go.RowKit Go.Dig Go.Shelf Go.Proofs
theorem goodB_L (n:Nat):goodB (L n)=true:=by
 unfold goodB
 by_cases h0:n=0
 ·subst h0;rfl
 ·have hne:(L n).length≠0:=fun e=>h0 ((dig_nil (by omega) n).1 (List.eq_nil_of_length_eq_zero e))
  have hb:=dig_big (B:=18446744073709551616) (by omega) h0
  rcases List.eq_nil_or_concat (L n) with e | ⟨l,d,e⟩
  ·rw[e] at hne;simp at hne
  ·rw[List.concat_eq_append] at e
   have hs:=small_L n
   have hv:=V_L n
   unfold L at *
   rw[e] at hs hb hv ⊢
   have hd0:d≠0:=by
    rintro rfl
    unfold V at hv
    rw[val_snoc,Nat.mul_zero,Nat.add_zero] at hv
    have h1:=val_lt (B:=18446744073709551616) (by omega) l (fun x hx=>hs x (by simp[hx]))
    rw[List.length_append,List.length_singleton,Nat.add_sub_cancel] at hb
    omega
   simp[List.getD,hd0]
end Go.Proofs.YtohifgjeebhijaaGreatDoor
