import Derived.Deep.LoopGhost
import Derived.Laws.BytesArg
import Derived.Test.YtohifgjeebhijaaGreatDoorVDa
namespace Go.Proofs.YtohifgjeebhijaaGreatDoor
set_option maxRecDepth 100000
set_option maxHeartbeats 4000000
open Go.RowKit Go.Dig Go.Shelf Go.Proofs
def fE:Nat→Nat→List Nat
 | 0,_=>[]
 | k+1,n=>n % 10::fE k (n / 10)
theorem kB: ∀(k n:Nat),(fE k n).length=k
 | 0,_=>rfl
 | k+1,n=>by rw[fE,List.length_cons,kB k]
theorem kj: ∀(k n:Nat),Small 10 (fE k n)
 | 0,_=>Small.nil
 | k+1,n=>Small.cons (Nat.mod_lt _ A3) (kj k _)
theorem oM: ∀(k n:Nat),val 10 (fE k n)=n % 10 ^ k
 | 0,n=>by simp[fE,val,Nat.mod_one]
 | k+1,n=>by
  rw[fE,val,oM k,Nat.pow_succ,Nat.mul_comm (10 ^ k) 10,Nat.mod_mul]
def gG (d:Nat):Value:=.int .u8 ((48+d:Nat):Int)
theorem Tryz.info5:(Tryz.prog.info? 5).map (fun i=>(i.zero,i.size,i.bytes))=some (some (.int .u8 0),1,1):=Cx
theorem jx (base:Nat) (v:Value) (ds:List Nat) (grp:Nat) (w:World) (h:w.ownsRow base 5 1 v ds.length (ds.map gG)) (hg:grp<18446744073709551616) (hl:ds.length≤100000) (hb:base≤w.heap.size):
  Calls Tryz.prog 93 #[v,.int .u64 (grp:Int)] w fun e w'=>∃v',e= .returned v'∧w'.ownsRow base 5 1 v' (ds++fE 19 grp).length ((ds++fE 19 grp).map gG)∧Below base w w':=by
 obtain⟨i0,hi,hz0,hz1,hz2⟩:=info_parts Tryz.info5;generalize hX:ds++fE 19 grp=X;have HX:=Hd hX;have HO:=Hd h;clear hX h;go_enter Tryz.func93,Tryz.ntmps93
 go_wp2_with fail
 go_loopw [0,1,5] (fun a b c wr=>∃(i n:Nat) (es:List Nat),i≤19∧n<18446744073709551616∧b= .int .u64 (n:Int)∧c= .int .i64 (i:Int)∧wr.ownsRow base 5 1 a es.length (es.map gG)∧es.length=ds.length+i∧Hid (es++fE (19 - i) n=X)∧Below base w wr) (fun _ _ c _=>19 - (intOf c).toNat)
 case atStart=>exact⟨0,grp,ds,A3,hg,rfl,rfl,HO.out,A3,Hd HX.out,Below.refl _ _⟩
 case round=>
  obtain⟨i,n,es,hi19,hn,rfl,rfl,hrow,hel,HE,hbl⟩:=hrel;have hbs:=hbl.size;by_cases hlt:i<19
  ·have HE2:Hid (Hid ((es++[n % 10])++fE (19 - (i+1)) (n / 10)=X)):=Hd (Hd (by rw[←HE.out,show 19 - i=(19 - (i+1))+1 by omega,fE];simp));clear HE;have hdl:n / 10<18446744073709551616:=A3
   have HC:Hid (48+(n:Int) % 10=((48+n % 10:Nat):Int)):=Hd A3
   go_wp2_with (at_builtin;refine wpList_append_own _ rfl _ _ 152 rfl base 5 i0 (.int .u8 0) 1 1 Tryz.underlying152 hi hz0 hz1 hz2 rfl BD u0 _ _ rfl (hrow.alloc _) ⟨wr.heap.size,0,none⟩ 1 1 [.int .u8 (48+(n:Int) % 10)] rfl rfl (cell_one_new _ _ _) Ck Cu A3 Cq ?_;intro v2 w2 hown2 hgrow _)
   refine⟨⟨i+1,n / 10,es++[n % 10],A3,hdl,rfl,Cw,?_,Cq,HE2.out,(hbl.alloc A3 _).grown hgrow Cq (fun j ej=>(hrow.lt j ej).1)⟩,?_⟩
   ·rw[List.length_append,List.map_append];have e1:[n % 10].map gG=[.int .u8 (48+(n:Int) % 10)]:=by rw[HC.out];rfl
    rw[e1];exact hown2
   ·simp only[intOf];omega
  ·have h19:i=19:=A3
   subst h19
   go_wp2_with fail
   go_ret;have e:es=X:=by have:=HE.out;rw[Nat.sub_self,fE,List.append_nil] at this;exact this
   refine⟨_,rfl,?_,hbl⟩;rw[←e];exact hrow
def mF (ds c:List Nat) (i:Nat):Prop:=c.length=ds.length∧∀k,k<ds.length→c.getD k 0=if k<i∨ds.length - 1 - i<k then ds.getD (ds.length - 1 - k) 0 else ds.getD k 0
theorem mF.zero (ds:List Nat):mF ds ds 0:=⟨rfl,fun k hk=>by rw[if_neg A3]⟩
theorem mF.step {ds c:List Nat} {i:Nat} (h:mF ds c i) (hi:i<ds.length - 1 - i):
  mF ds ((c.set i (c.getD (ds.length - 1 - i) 0)).set (ds.length - 1 - i) (c.getD i 0)) (i+1):=by
 obtain⟨h1,h2⟩:=h;refine⟨by simp[h1],fun k hk=>?_⟩;have ei:=h2 i A3;have ej:=h2 (ds.length - 1 - i) A3;rw[if_neg A3] at ei ej;by_cases hkj:k=ds.length - 1 - i
 ·subst hkj;rw[ju (by simp[h1];omega),if_pos A3,ei];congr 1;omega
 ·rw[Go.Dig.getD_set_ne (fun e=>hkj e.symm)];by_cases hki:k=i
  ·subst hki;rw[ju (by rw[h1];omega),if_pos A3,ej]
  ·rw[Go.Dig.getD_set_ne (fun e=>hki e.symm),h2 k hk];by_cases hc:k<i∨ds.length - 1 - i<k
   ·rw[if_pos hc,if_pos A3]
   ·rw[if_neg hc,if_neg A3]
theorem mF.done {ds c:List Nat} {i:Nat} (h:mF ds c i) (hi:ds.length≤1+i+i):c=ds.reverse:=by
 obtain⟨h1,h2⟩:=h;apply List.ext_getElem?;intro k;by_cases hk:k<ds.length
 ·have e:=h2 k hk;have e1:c.getD k 0=c[k]:=by simp[List.getD,show k<c.length by omega]
  have e2:ds.getD (ds.length - 1 - k) 0=ds.reverse[k]'(by simpa using hk):=by
   simp[List.getD,show ds.length - 1 - k<ds.length by omega]
  rw[List.getElem?_eq_getElem A3,List.getElem?_eq_getElem (by simpa using hk),←e1,←e2,e];by_cases hc:k<i∨ds.length - 1 - i<k
  ·rw[if_pos hc]
  ·rw[if_neg hc,show ds.length - 1 - k=k by omega]
 ·rw[List.getElem?_eq_none A3,List.getElem?_eq_none Cq]
theorem oJ (cap:Nat) (a:Option Addr) (w:World):Calls Tryz.prog 95 #[.slice a 0 cap] w fun e w'=>e= .returned (.tuple #[])∧w=w':=by
 go_enter Tryz.func95,Tryz.ntmps95
 go_wp2_with fail
 go_loop [2,3] (fun a b=>a= .int .i64 0∧b= .int .i64 (-1)) (fun _ _=>0)
 case atStart=>exact⟨rfl,rfl⟩
 case round=>
  obtain⟨rfl,rfl⟩:=hrel
  go_wp2_with fail
  go_end0
  exact⟨rfl,rfl⟩
theorem o5 (base g cap:Nat) (ds:List Nat) (w:World) (h:w.ownsRow base 5 1 (.slice (some ⟨g,0,none⟩) ds.length cap) ds.length (ds.map gG)) (hl:ds.length≤100000) (hp:0<ds.length):
  Calls Tryz.prog 95 #[.slice (some ⟨g,0,none⟩) ds.length cap] w fun e w'=>e= .returned (.tuple #[])∧w'.ownsRow base 5 1 (.slice (some ⟨g,0,none⟩) ds.length cap) ds.length (ds.reverse.map gG)∧Fr (· =g) w w':=by
 obtain⟨n,hn⟩: ∃n,n=ds.length:=⟨_,rfl⟩
 rw[←hn] at h hl hp ⊢;have HN:=Hd hn;have HO:=Hd h;have hcap:n≤cap:=by
  rcases h.2 with ⟨h',_⟩ | ⟨g',cap',cur,h',hb,hg,h1,_⟩
  ·cases h'
  ·cases h';exact h1
 clear h hn;go_enter Tryz.func95,Tryz.ntmps95
 go_wp2_with fail
 go_loopw [2,3] (fun a b wr=>∃(i:Nat) (c:List Nat),a= .int .i64 (i:Int)∧b= .int .i64 ((n:Int) - 1 - i)∧i≤n∧Hid (mF ds c i)∧wr.ownsRow base 5 1 (.slice (some ⟨g,0,none⟩) n cap) n (c.map gG)∧Fr (· =g) w wr) (fun a _ _=>n - (intOf a).toNat)
 case atStart=>exact⟨0,ds,rfl,Cw,A3,Hd (mF.zero ds),HO.out,Fr.refl _ _⟩
 case round=>
  obtain⟨i,c,rfl,rfl,hin,HR,hO,hF⟩:=hrel;by_cases hlt:i<n - 1 - i
  ·obtain⟨j,hj⟩: ∃j,j=n - 1 - i:=⟨_,rfl⟩
   have hji:(n:Int) - 1 - i=(j:Int):=A3
   have HR2:=Hd (Hd (HR.step (by rw[←HN.out];exact hlt)));rw[←HN.out,←hj] at HR2;have hcl:c.length=n:=by rw[HR.1,HN.out]
   have ci:wr.cell? ⟨g,i,none⟩=some (.int .u8 ((48+c.getD i 0:Nat):Int)):=by
    rw[hO.cellAt i A3];simp[List.getD,show i<c.length by omega,gG]
   have cj:wr.cell? ⟨g,j,none⟩=some (.int .u8 ((48+c.getD j 0:Nat):Int)):=by
    rw[hO.cellAt j A3];simp[List.getD,show j<c.length by omega,gG]
   have fi:=hO.frozenAt i;have fj:=hO.frozenAt j;have hjn:j<n:=A3
   have hin2:i<n:=A3
   generalize c.getD i 0=x at ci HR2;generalize c.getD j 0=y at cj HR2;have hij:i<j:=A3
   have HJ:=Hd hji;clear hj HR hlt;rw[hji];clear hji;have HS:=Hd (hO.stored i (.int .u8 (48+(y:Int))));have HT:=Hd (HS.1.stored j (.int .u8 (48+(x:Int))))
   go_wp2_with fail
   go_region
   have hO2:=HT.1.drew;have hF2:Fr (· =g) w ((wr.setCell ⟨g,i,none⟩ (.int .u8 (48+(y:Int)))).setCell ⟨g,j,none⟩ (.int .u8 (48+(x:Int)))).drew:=((hF.setCell (.inr rfl) _).setCell (.inr rfl) _).drew;clear HS HT ci cj fi fj hO hF;generalize ((wr.setCell ⟨g,i,none⟩ (.int .u8 (48+(y:Int)))).setCell ⟨g,j,none⟩ (.int .u8 (48+(x:Int)))).drew=W2 at hO2 hF2 ⊢
   go_wp2_with fail
   go_round
   case rel=>
    refine⟨i+1,_,Cw,by have:=HJ.out;go_num,A3,HR2.out,?_,hF2⟩;have e:((c.set i y).set j x).map gG=((c.map gG).set i (.int .u8 (48+(y:Int)))).set j (.int .u8 (48+(x:Int))):=by
     rw[List.map_set,List.map_set];simp[gG]
    rw[e];exact hO2
   case measure=>simp[intOf];omega
  ·go_wp2_with fail
   go_end0
   refine⟨rfl,?_,hF⟩;rw[←HR.done (by have:=HN.out;omega)];exact hO
theorem ay.keep {w w':World} {base g n cap:Nat} {l:List Nat} (h:ay w base g n cap l) (hb:w'.heap[g]? =w.heap[g]?):ay w' base g n cap l:=by
 refine⟨h.1,?_⟩;rcases h.2 with ⟨h',_⟩ | ⟨g',cap',cur,h',hg,hh,rest⟩
 ·cases h'
 ·cases h';exact .inr ⟨g,cap,cur,rfl,hg,hb.trans hh,rest⟩
theorem ka: ∀(s:List UInt8),Lib.trimLeftB s 48=lC s
 | []=>rfl
 | c::s=>by
  unfold lC;by_cases h:c=48
  ·subst h;rw[if_pos rfl,←ka s];rfl
  ·rw[if_neg h];unfold Lib.trimLeftB;rw[List.dropWhile_cons_of_neg (by simpa using h)]
theorem qU {ds:List Nat} {n:Nat} (hs:Small 10 ds) (hv:val 10 ds=n) (h0:n≠0):lC (Dig.bytes ds)=text n:=by
 rw[kK _ ds rfl hs,dJ A3 ds hs,hv];unfold text;rw[if_neg h0]
theorem qB (ds:List Nat):strOfNums (ds.reverse.map fun d=>((48+d:Nat):Int))=⟨(Dig.bytes ds).toArray⟩:=by
 unfold strOfNums Dig.bytes;rw[List.map_map];rfl
theorem ol {w:World} {base g cap:Nat} {ds:List Nat} (h:w.ownsRow base 5 1 (.slice (some ⟨g,0,none⟩) ds.length cap) ds.length (ds.reverse.map gG)):
  (convert 152 9 (.slice (some ⟨g,0,none⟩) ds.length cap)).run Tryz.prog w= .ok (.string ⟨(Dig.bytes ds).toArray⟩) w:=by
 rw[←qB];refine run_convert_bytes_arg w 152 5 Tryz.underlying152 Tryz.underlying5 g 0 ds.length cap _ B4 (fun i hi=>?_) 9 Tryz.underlying9;rw[Nat.zero_add,h.cellAt i A3];simp[List.getD,hi,gG]
theorem xT (k:Nat):2 ^ k≤10 ^ k:=Nat.pow_le_pow_left A3 k
theorem rh (v:Value) (la:List Nat) (w:World) (h:aH w v la) (s:a7 la) (hl:la.length≤1000) (h0:V la=0):
  Calls Tryz.prog 58 #[v] w fun e w'=>e= .returned (.string ⟨(text (V la)).toArray⟩)∧Below w.heap.size w w':=by
 have R:=Hd h;obtain⟨ad,cap,rfl,hcap,-⟩:=h;have HT:Hid (dr ad cap la= .slice none 0 0):=Hd (by unfold dr;rw[d6 s,h0];rfl);have H38:=Hd (b7 ad cap la w R.out A3);rw[HT.out] at H38;have HX:Hid (text (V la)=[48]):=Hd (by rw[h0];rfl);rw[HX.out];clear s h0;go_enter Tryz.func58,Tryz.ntmps58
 go_wp2_with fail
 refine H38.mono ?_;rintro e w1 ⟨rfl,hb1⟩
 go_wp2_with fail
 refine(l4 w1).mono ?_;rintro e w2 ⟨rfl,rfl⟩
 go_wp2_with fail
 go_loop [3,4] (fun a b=>a= .slice none 0 0∧b= .slice none 0 0) (fun _ _=>0)
 case atStart=>exact⟨rfl,rfl⟩
 case round=>
  obtain⟨rfl,rfl⟩:=hrel;have hcv:=fun(w:World)=>run_convert_bytes_nil (P:=Tryz.prog) w 152 5 Tryz.underlying152 Tryz.underlying5 0 0 9 Tryz.underlying9
  go_wp2_with fail
  refine(oJ 0 none _).mono ?_;rintro e w3 ⟨rfl,rfl⟩
  go_wp2_with fail
  refine(Tryz.strings_TrimLeft_one ByteArray.empty 48 BD _).mono ?_;rintro e w3 ⟨rfl,rfl⟩;have he:(⟨(Lib.trimLeftB ByteArray.empty.data.toList 48).toArray⟩:ByteArray)=⟨#[]⟩:=rfl;rw[he]
  go_wp2_with fail
  go_ret;exact⟨rfl,hb1⟩
def yr (W:World) (b0 g cap m:Nat) (v:Value):Prop:=(m=0∧v= .slice none 0 0)∨(m≠0∧v= .slice (some ⟨g,0,none⟩) (L m).length cap∧ay W b0 g (L m).length cap (L m))
theorem qi (v:Value) (la:List Nat) (w:World) (h:aH w v la) (s:a7 la) (hl:la.length≤1000) (h0:V la≠0):
  Calls Tryz.prog 58 #[v] w fun e w'=>e= .returned (.string ⟨(text (V la)).toArray⟩)∧Below w.heap.size w w':=by
 have R:=Hd h;obtain⟨ad,cap,rfl,hcap,-⟩:=h;obtain⟨K,hK,hnl⟩: ∃K,K≤64000∧V la<2 ^ K:=by
  refine⟨64*la.length,A3,?_⟩;have h1:=d9 (B:=18446744073709551616) A3 la s
  rwa [show (18446744073709551616:Nat)=2 ^ 64 from rfl,←Nat.pow_mul] at h1
 obtain⟨a1,c1,e1,r1⟩:=df R.out;have hlen:=ef la;rw[d6 s] at e1 r1 hlen;have H38:=Hd (b7 ad cap la w R.out A3);rw[e1] at H38;have Q1:=Hd r1;clear e1 r1 R;generalize V la=n at *;have hne:L n≠[]:=fun e=>h0 ((dW A3 n).1 e)
 have H0:=Hd h0;have HNE:=Hd hne;have HNL:=Hd hnl;clear s h0 hne hnl;go_enter Tryz.func58,Tryz.ntmps58
 go_wp2_with fail
 refine H38.mono ?_;rintro e w1 ⟨rfl,hb1⟩
 go_wp2_with fail
 refine(iN _ (L n) w1 (Q1.below hb1) HNE.out A3).mono ?_;rintro e w2 ⟨g,cp,rfl,hO2,hb2⟩;have hB2:Below w.heap.size w w2:=hb1.tr hb2;have hg2:=hO2.lt;have hcp:=hO2.cap;clear hb2 H38 Q1;have hs1:=hb1.size
 go_wp2_with fail
 go_loopg [3,4] n (fun k a b wr=>∃(m:Nat) (ds:List Nat),m≤k∧wr.ownsRow w2.heap.size 5 1 a ds.length (ds.map gG)∧yr wr w1.heap.size g cp m b∧Hid (Small 10 ds∧n=val 10 ds+10 ^ ds.length*m)∧Below w.heap.size w wr∧w2.heap.size≤wr.heap.size∧Hid (ds.length≤64019))
 case atStart=>exact⟨n,[],Nat.le_refl _,World.ownsRow_nil _ _ _ _,.inr ⟨H0.out,rfl,hO2⟩,Hd ⟨Small.nil,by simp[val]⟩,hB2,Nat.le_refl _,Hd B4⟩
 case round=>
  obtain⟨m,ds,hmk,hD,hR,HI,hB,hsz,HDL⟩:=hrel;rcases hR with ⟨rfl,rfl⟩ | ⟨hm,rfl,hO⟩
  ·
   have hv:val 10 ds=n:=by have:=HI.2;rw[Nat.mul_zero,Nat.add_zero] at this;exact this.symm
   have hdl:0<ds.length:=by
    apply Nat.pos_of_ne_zero;intro e;have e2:ds=[]:=List.eq_nil_of_length_eq_zero e;rw[e2] at hv;exact H0.out hv.symm
   have hdk:ds.length≤100000:=by have:=HDL.out;omega
   obtain⟨gd,cd,rfl⟩:=i7 hD hdl;have hgd:=(World.ownsRow.lt hD gd rfl).1;have HST:=Hd (qU HI.1 hv H0.out);clear hv HI
   go_wp2_with fail
   refine(o5 w2.heap.size gd cd ds wr hD hdk hdl).mono ?_;rintro e w3 ⟨rfl,hD3,hF3⟩;have hcv:=ol hD3;have hB3:Below w.heap.size w w3:=hB.trans (hF3.below hB.size (fun k e=>by have:=hB2.size;omega))
   go_wp2_with fail
   refine(Tryz.strings_TrimLeft_one _ 48 BD _).mono ?_;rintro e w4 ⟨rfl,rfl⟩;have he:(⟨(Lib.trimLeftB (⟨(Dig.bytes ds).toArray⟩:ByteArray).data.toList 48).toArray⟩:ByteArray)=⟨(text n).toArray⟩:=by
    rw[ka,←HST.out]
   rw[he];have hnil:(text n).isEmpty=false:=by
    have:=uG n;cases ht:text n with
    | nil=>rw[ht] at this;simp at this
    | cons a b=>rfl
   go_wp2_with fail
   go_ret;exact⟨rfl,hB3⟩
  ·have hmpos:0<(L m).length:=List.length_pos_iff.2 (fun e=>hm ((dW A3 m).1 e));have hgt:(((L m).length:Int)>0):=A3
   have hlm:(L m).length≤1000:=by
    have h1:m≤n:=by
     have h2:=HI.2;have h3:1*m≤10 ^ ds.length*m:=Nat.mul_le_mul_right _ (Nat.pow_pos A3);omega
    have h4:(L m).length≤(L n).length:=dN A3 h1;omega
   have hdk:ds.length≤64000:=by
    have h2:=HI.2;have h3:10 ^ ds.length*1≤10 ^ ds.length*m:=Nat.mul_le_mul_left _ A3;have h4:=xT ds.length;have h5:2 ^ ds.length<2 ^ K:=by have:=HNL.out;omega
    have h6:=(Nat.pow_lt_pow_iff_right (by omega:1<2)).1 h5;omega
   have HV:=Hd (V_L m);have HI2:Hid (Small 10 (ds++fE 19 (m % 10000000000000000000))∧n=val 10 (ds++fE 19 (m % 10000000000000000000))+10 ^ (ds++fE 19 (m % 10000000000000000000)).length*(m / 10000000000000000000)):=Hd (by
    obtain⟨i1,i2⟩:=HI.out;refine⟨fun x hx=>?_,?_⟩
    ·rcases List.mem_append.1 hx with hx | hx
     ·exact i1 x hx
     ·exact kj _ _ x hx
    ·rw[dF,oM,List.length_append,kB,Nat.pow_add,show 10 ^ 19=10000000000000000000 from rfl,Nat.mod_mod,Nat.add_assoc,Nat.mul_assoc,←Nat.mul_add,Nat.mod_add_div];exact i2)
   have hdl2:(ds++fE 19 (m % 10000000000000000000)).length=ds.length+19:=by rw[List.length_append,kB]
   have hlt:m / 10000000000000000000<m:=Nat.div_lt_self A3 A3;have hg64:m % 10000000000000000000<18446744073709551616:=Nat.lt_trans (Nat.mod_lt _ A3) A3;clear HI
   go_wp2_with fail
   have H50:=fM w1.heap.size g (L m).length cp (L m) 10000000000000000000 wr hO (bH m) A3 A3 A3;rw[HV.out] at H50;refine H50.mono ?_;rintro e w3 ⟨rfl,⟨q,hO3,hq3,hqv⟩,hF3⟩;have hD3:w3.ownsRow w2.heap.size 5 1 u3 ds.length (ds.map gG):=hD.kept hF3.grown (by
    right;intro e;have:=(World.ownsRow.lt hD g e).1;omega)
   have hB3:Below w.heap.size w w3:=hB.trans (hF3.below hB.size (fun k e=>A3));have hs3:=hF3.size
   go_wp2_with fail
   refine(jx w2.heap.size u3 ds (m % 10000000000000000000) w3 hD3 hg64 A3 A3).mono ?_;rintro e w4 ⟨v4,rfl,hD4,hb4⟩;have hO4:ay w4 w1.heap.size g (L m).length cp q:=hO3.keep (hb4.block g A3);have hB4:Below w.heap.size w w4:=hB3.trans (hb4.mono (by have:=hB2.size;omega));have hs4:=hb4.size;have hql:=hO4.len;have T:=b7 (some ⟨g,0,none⟩) cp q w4 (by rw[hql];exact hO4.row) A3;rw[hql] at T
   go_wp2_with fail
   refine T.mono ?_;rintro e w5 ⟨rfl,hb5⟩;have hs5:=hb5.size;have hO5:=hO4.keep (hb5.block g (by have:=hO4.lt;omega));have hD5:=hD4.kept (w':=w5) (row:=none) ⟨hb5.os,hb5.tape,hb5.output,hb5.size,fun k hk _=>hb5.block k hk⟩ (by
    cases e9:v4.ownBlock
    ·exact .inl rfl
    ·exact .inr B4)
   have hB5:Below w.heap.size w w5:=hB4.tr hb5;have hRV:yr w5 w1.heap.size g cp (m / 10000000000000000000) (dr (some ⟨g,0,none⟩) cp q):=by
    have ht:bq q=L (m / 10000000000000000000):=by rw[d6 hq3,hqv]
    by_cases hz:m / 10000000000000000000=0
    ·left;refine⟨hz,?_⟩;unfold dr;rw[ht,hz];rfl
    ·right;have hnn: ¬bq q=[]:=by rw[ht];exact fun e=>hz ((dW A3 _).1 e)
     refine⟨hz,?_,?_⟩
     ·unfold dr;rw[if_neg hnn,ht]
     ·have h9:=hO5.take (k:=(bq q).length) (by rw[←hql];exact ef q);rw[←eV,ht] at h9;exact h9
   generalize dr (some ⟨g,0,none⟩) cp q=v5 at hRV ⊢;clear hO5 hO4 hO3 hO H50 T hql
   go_wp2_with fail
   go_roundg (m / 10000000000000000000)
   case measure=>omega
   case rel=>exact⟨_,_,Nat.le_refl _,hD5,hRV,HI2,hB5,A3,Hd A3⟩
theorem sx (v:Value) (la:List Nat) (w:World) (h:aH w v la) (s:a7 la) (hl:la.length≤1000):
  Calls Tryz.prog 58 #[v] w fun e w'=>e= .returned (.string ⟨(text (V la)).toArray⟩)∧Below w.heap.size w w':=by
 by_cases h0:V la=0
 ·exact rh v la w h s hl h0
 ·exact qi v la w h s hl h0
theorem im {ops:Array Oper} {rest:List Oper} {o:Oper} {a:Act} {Q:Exit→Act→World→Prop} {w:World} (hgd:o.guard=none) (s x:Operand) (t t':TypeId)
  (ho:o.op= .call { callee:=.builtin .append,args:= #[s,x],argTypes:= #[t,t'] }) (v u v':Value) (w':World) (hs:a.eval s=v) (hx:a.eval x=u)
  (hr:(Builtin.append_ #[t,t'] o.type #[v,u]).run Tryz.prog w= .ok v' w') (h:wpList Tryz.prog ops Q rest (a.put o.dst v') w'):wpList Tryz.prog ops Q (o::rest) a w:=
 wpList_plain hgd fun K hK=>by
  unfold Oper.wp execOp;simp only[ho,resolve,invoke,builtin,Sem.run_bind,Sem.run_pure,Result.andThen_ok,List.map_toArray,List.map_cons,List.map_nil,hs,hx,hr];exact hK _ _ h
def pM (w:World) (v:Value) (l:List Nat):Prop:=
 (v= .slice none 0 0∧l=[])∨∃ad cap,v= .slice (some ad) l.length cap∧l.length≤cap∧(l≠[]→∃b off,ad=⟨b,off,none⟩∧b<w.heap.size∧∀j,j<l.length→w.cell? ⟨b,off+j,none⟩=some (.int .u64 (l.getD j 0:Nat)))
theorem pM.row {w:World} {v:Value} {l:List Nat} (h:pM w v l):aH w v l:=by
 rcases h with ⟨rfl,rfl⟩ | ⟨ad,cap,rfl,h1,h2⟩
 ·exact AA
 ·refine⟨_,cap,rfl,h1,fun hl=>?_⟩;obtain⟨b,off,rfl,h3,h4⟩:=h2 hl;exact⟨b,off,rfl,h3,h4⟩
theorem pM.below {w w':World} {v:Value} {l:List Nat} (h:pM w v l) (hb:Below w.heap.size w w'):pM w' v l:=by
 rcases h with h | ⟨ad,cap,rfl,h1,h2⟩
 ·exact .inl h
 ·refine .inr ⟨ad,cap,rfl,h1,fun hl=>?_⟩;obtain⟨b,off,rfl,h3,h4⟩:=h2 hl;exact⟨b,off,rfl,Nat.lt_of_lt_of_le h3 hb.size,fun j hj=>(hb.cell (p:=⟨b,off+j,none⟩) h3).trans (h4 j hj)⟩
theorem s5 (v:Value) (l:List Nat) (w:World) (h:aH w v l) (hl:l.length≤1000000):
  Calls Tryz.prog 67 #[v] w fun e w'=>e= .returned (.bool (fC l))∧w=w':=by
 have R:=Hd h;obtain⟨ad,cap,rfl,hcap,h2⟩:=h;by_cases h0:l.length=0
 ·have HG:Hid (fC l=true):=Hd (by simp[fC,h0]);rw[h0];clear h2;go_enter Tryz.func67,Tryz.ntmps67
  go_wp2_with fail
  go_ret;exact⟨by rw[HG.out];rfl,rfl⟩
 ·obtain⟨b,off,rfl,hb,hc⟩:=R.cell (j:=l.length - 1) A3;have HG:Hid (fC l=(((l.getD (l.length - 1) 0:Nat):Int) != 0)):=Hd (by
   unfold fC;have:(l.length==0)=false:=by simpa using h0
   rw[this,Bool.false_or,Bool.eq_iff_iff];simp)
  generalize l.getD (l.length - 1) 0=x at hc HG;have hpos:0<l.length:=A3
  have hn0:((l.length:Int)==0)=false:=BL
  generalize l.length=n at *;clear h2;go_enter Tryz.func67,Tryz.ntmps67
  go_wp2_with fail
  go_ret;exact⟨by rw[HG.out];rfl,rfl⟩
def cT (acc x j:Nat):Nat:=acc*65536 ^ (4 - j)+x / 65536 ^ j
theorem mP (acc:Nat) {x:Nat} (h:x<18446744073709551616):cT acc x 4=acc:=by
 unfold cT;rw[show x / 65536 ^ 4=0 from Nat.div_eq_of_lt h];simp
theorem jZ (acc x:Nat):cT acc x 0=x+18446744073709551616*acc:=by
 unfold cT;rw[show 65536 ^ (4 - 0)=18446744073709551616 from rfl,show 65536 ^ 0=1 from rfl];omega
theorem nD (acc x:Nat) {j:Nat} (hj:j<4):cT acc x (j+1)*65536+x / 65536 ^ j % 65536=cT acc x j:=by
 unfold cT;rw[Nat.add_mul,Nat.mul_assoc,←Nat.pow_succ,show (4 - (j+1)).succ=4 - j by omega,Nat.pow_succ,←Nat.div_div_eq_div_mul];omega
theorem jm (acc x:Nat) {j:Nat} (hj:j≤4):cT acc x j≤x+18446744073709551616*acc:=by
 rw[←jZ];unfold cT;have h1:acc*65536 ^ (4 - j)≤acc*65536 ^ (4 - 0):=Nat.mul_le_mul_left _ (Nat.pow_le_pow_right A3 A3);have h2:x / 65536 ^ j≤x / 65536 ^ 0:=by rw[Nat.pow_zero,Nat.div_one];exact Nat.div_le_self _ _
 omega
theorem vX {l:List Nat} (h:a7 l):(D (V l)).length≤5*l.length:=by
 rw[cC A3];have h1:=d9 (B:=18446744073709551616) A3 l h;refine Nat.lt_of_lt_of_le h1 ?_;rw[Nat.pow_mul];exact Nat.pow_le_pow_left BD _
theorem sN (v:Value) (la:List Nat) (w:World) (h:aH w v la) (s:a7 la) (hl:la.length≤1000):
  Calls Tryz.prog 69 #[v] w fun e w'=>∃v',e= .returned v'∧Row w' v' (D (V la))∧Below w.heap.size w w':=by
 have R:=Hd h;obtain⟨ad,cap,rfl,hcap,-⟩:=h;have HS:=Hd s;have hDl:Hid (∀m,(D (V (la.drop m))).length≤5000):=Hd (fun m=>by
  have h1:=vX (s.drop m);rw[List.length_drop] at h1;omega)
 clear s;go_enter Tryz.func69,Tryz.ntmps69
 go_wp2_with fail
 go_loopw [3,4] (fun a b wr=>∃m:Nat,m≤la.length∧b= .int .i64 ((m:Int) - 1)∧Row wr a (D (V (la.drop m)))∧Below w.heap.size w wr) (fun _ b _=>(intOf b+1).toNat)
 case atStart=>exact⟨la.length,Nat.le_refl _,rfl,by rw[List.drop_length];exact⟨_,_,rfl,Nat.le_refl _,fun h=>absurd rfl h⟩,Below.refl _ _⟩
 case round=>
  obtain⟨m,hm,rfl,hRow,hB⟩:=hrel;by_cases hz:m=0
  ·subst hz
   go_wp2_with fail
   go_ret;exact⟨_,rfl,hRow,hB⟩
  ·obtain⟨k,rfl⟩: ∃k,m=k+1:=⟨m - 1,A3⟩
   have hk:k<la.length:=A3
   obtain⟨b,off,rfl,hb,hc⟩:=R.cell hk;have hx:=HS.getD A3 k;have hV:=Hd (bY (B:=18446744073709551616) la k hk);have hDk:=hDl.out k;have hDk1:=hDl.out (k+1);generalize hacc:V (la.drop (k+1))=acc at *;unfold V at hacc;rw[hacc] at hV;generalize la.getD k 0=x at hc hx hV;rw[show ((k+1:Nat):Int) - 1=(k:Int) by omega];have HVk:Hid (V (la.drop k)=x+18446744073709551616*acc):=Hd hV.out;rw[HVk.out] at hDk;have HD5:=Hd hDk;have HAC:=Hd hacc;clear hacc hV hz hDk
   go_wp2_with fail
   go_loopw [3,5] (fun a b wr2=>∃j:Nat,j≤4∧b= .int .i64 ((j:Int) - 1)∧Row wr2 a (D (cT acc x j))∧Below w.heap.size w wr2) (fun _ b _=>(intOf b+1).toNat)
   case atStart=>exact⟨4,A3,rfl,by rw[mP acc hx];exact hRow,hB⟩
   case round=>
    clear hRow hB;obtain⟨j,hj,rfl,hRow,hB⟩:=hrel;by_cases hz:j=0
    ·subst hz;rw[jZ] at hRow;rw[←HVk.out] at hRow
     go_wp2_with fail
     exact⟨⟨k,A3,rfl,hRow,hB⟩,by simp[intOf]⟩
    ·obtain⟨i,rfl⟩: ∃i,j=i+1:=⟨j - 1,A3⟩
     have HP:=Hd (nD acc x (j:=i) A3);have hM1:=jm acc x (j:=i+1) hj;have hM0:=jm acc x (j:=i) A3;have hL1:(D (cT acc x (i+1))).length≤5000:=Nat.le_trans (dN A3 hM1) HD5.out;have hL0:(D (cT acc x i)).length≤5000:=Nat.le_trans (dN A3 hM0) HD5.out;have hci:wr.cell? ⟨b,off+k,none⟩=some (.int .u64 (x:Int)):=(hB.cell (p:=⟨b,off+k,none⟩) hb).trans hc;rw[show ((i+1:Nat):Int) - 1=(i:Int) by omega];clear hz hM1 hM0 hc
     go_wp2_with fail
     go_loop [6,23] (fun a b=>∃t y:Nat,t≤i∧y<18446744073709551616∧Hid (y=x / 65536 ^ t)∧a= .int .u64 (y:Int)∧b= .int .i64 (t:Int)) (fun _ b=>i - (intOf b).toNat)
     case atStart=>exact⟨0,x,A3,hx,Hd B4,rfl,rfl⟩
     case round=>
      obtain⟨t,y,ht,hy,HY,rfl,rfl⟩:=hrel;by_cases hti:t=i
      ·subst hti;have HP2:Hid (cT acc x (t+1)*65536+y % 65536=cT acc x t):=Hd (by rw[HY.out];exact HP.out);clear HP HY;generalize cT acc x (t+1)=A at hRow HP2 hL1;obtain⟨A2,hA2⟩: ∃A2,A2=cT acc x t:=⟨_,rfl⟩
       rw[←hA2] at HP2 hL0;have HA2:=Hd hA2;clear hA2;have hAM:(D (A*65536)).length≤5000:=Nat.le_trans (dN A3 (by have:=HP2.out;omega)) hL0;have hy16:(D (y % 65536)).length≤5:=(cC A3 _ 5).2 A3;have h65:(D 65536).length≤5:=(cC A3 _ 5).2 A3;have H1:=Hd (fT 65536 wr A3)
       go_wp2_with fail
       refine H1.mono ?_;rintro e w2 ⟨v2,rfl,hv2,hb2⟩;have hR2:=hRow.below hb2;have hB2:Below w.heap.size w w2:=hB.tr hb2;have H2:=Hd (jA _ _ A 65536 w2 hR2 hv2 A3 A3)
       go_wp2_with fail
       refine H2.mono ?_;rintro e w3 ⟨v3,rfl,hv3,hb3⟩;have hB3:Below w.heap.size w w3:=hB2.tr hb3;have H3:=Hd (fT (y % 65536) w3 A3);rw[show ((y % 65536:Nat):Int)=(y:Int) % 65536 by omega] at H3
       go_wp2_with fail
       refine H3.mono ?_;rintro e w4 ⟨v4,rfl,hv4,hb4⟩;have hB4:Below w.heap.size w w4:=hB3.tr hb4;have H4:=Hd (rH _ _ (A*65536) (y % 65536) w4 (hv3.below hb4) hv4 A3 A3);rw[HP2.out] at H4
       go_wp2_with fail
       refine H4.mono ?_;rintro e w5 ⟨v5,rfl,hv5,hb5⟩;have hB5:Below w.heap.size w w5:=hB4.tr hb5
       go_wp2_with fail
       exact⟨⟨t,A3,rfl,by rw[←HA2.out];exact hv5,hB5⟩,by simp[intOf]⟩
      ·have hti2:t<i:=A3
       have HY2:Hid (Hid (y / 65536=x / 65536 ^ (t+1))):=Hd (Hd (by rw[HY.out,Nat.pow_succ,Nat.div_div_eq_div_mul]));have hy2:y / 65536<18446744073709551616:=A3
       clear HY
       go_wp2_with fail
       go_round
       case rel=>exact⟨t+1,y / 65536,A3,hy2,HY2.out,Cw,Cw⟩
       case measure=>simp[intOf];omega
theorem rQ (n:Nat):fC (L n)=true:=by
 unfold fC;by_cases h0:n=0
 ·subst h0;rfl
 ·have hne:(L n).length≠0:=fun e=>h0 ((dW A3 n).1 (List.eq_nil_of_length_eq_zero e))
  have hb:=gh (B:=18446744073709551616) A3 h0;rcases List.eq_nil_or_concat (L n) with e | ⟨l,d,e⟩
  ·rw[e] at hne;simp at hne
  ·rw[List.concat_eq_append] at e;have hs:=bH n;have hv:=V_L n;unfold L at *;rw[e] at hs hb hv ⊢;have hd0:d≠0:=by
    rintro rfl;unfold V at hv;rw[fK,Nat.mul_zero,Nat.add_zero] at hv;have h1:=d9 (B:=18446744073709551616) A3 l (fun x hx=>hs x (by simp[hx]));rw[List.length_append,List.length_singleton,Nat.add_sub_cancel] at hb;omega
   simp[List.getD,hd0]
theorem rz (va vw:Value) (x:Nat) (w:World) (h1:aH w va (L x)) (h2:Row w vw (D x)) (hl:(L x).length≤1000):
  Calls Tryz.prog 34 #[va,vw] w fun e w'=>e= .returned (.bool true)∧Below w.heap.size w w':=by
 have hDl:(D x).length≤5000:=by
  have:=vX (bH x);rw[V_L] at this;omega
 have H15:=Hd (s5 va (L x) w h1 A3);rw[rQ] at H15;have H18:=Hd (sN va (L x) w h1 (bH x) hl);rw[V_L] at H18;have R2:=Hd h2;clear h1 h2;go_enter Tryz.func34,Tryz.ntmps34
 go_wp2_with fail
 refine H15.mono ?_;rintro e w1 ⟨rfl,rfl⟩
 go_wp2_with fail
 refine H18.mono ?_;rintro e w1 ⟨v1,rfl,hv1,hb1⟩;have H20:=Hd (nj v1 vw x x w1 hv1 (R2.below hb1) A3 A3);rw[gy] at H20
 go_wp2_with fail
 refine H20.mono ?_;rintro e w2 ⟨rfl,hb2⟩
 go_wp2_with fail
 go_ret;exact⟨rfl,hb1.tr hb2⟩
end Go.Proofs.YtohifgjeebhijaaGreatDoor
