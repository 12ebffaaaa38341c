/-
  TopoPlays: each act answers, and the topology is, as the document says; in each domain one is on. Conditions: the numbers are of 64 bits, and lie in memory that there may be.
-/
import Derived.Test.YtbeklkgoiigccaaTt
namespace Go.Proofs.Ytbeklkgoiigccaa
open Go.RowKit

theorem tell_some {cs : List Nat} {on k : Nat} (ok : TopoOk cs on) (hk : k < cs.length) : (((tellN cs on (k : Int) true : Nat) : Int) == 0) = false := by
  rw [(tell_yes (on := on) hk true).1]
  have := ok.some k hk
  rw [beq_eq_false_iff_ne]
  simp only [pickN, if_true]
  omega
set_option maxRecDepth 100000 in
set_option maxHeartbeats 4000000 in
theorem plays_any (v v1 : Value) (l : List Nat) (xs : List (Int × Bool)) (w : World) (h : RowN w v l) (hs : ∀ j, l.getD j 0 < 18446744073709551616) (hr : l.length * 8 ≤ 140737488351232) (hx : RowA w v1 xs) :
    Calls Try.prog 4 #[v, v1] w fun e w' => e = .returned (.bool true) ∧ Below w.heap.size w w' := by
  obtain ⟨a1, c1, rfl, -⟩ := id hx
  have HX := Lib.hid hx
  have HO := Lib.hid (fun w h => Open_any v l w h hs hr)
  clear hx
  have hB := Below.refl w.heap.size w
  by_cases hlen : 40 < xs.length
  · have h1 : (40 : Int) < (xs.length : Int) := by omega
    clear hlen
    go_enter Try.func4, Try.ntmps4
    go_wp2_with fail
    refine (awake_any _).mono ?_
    rintro e w1 ⟨rfl, hb⟩
    replace hB := hB.trans (hb.mono hB.size)
    clear hb
    go_wp2_with fail
    refine (awake_any _).mono ?_
    rintro e w2 ⟨rfl, hb⟩
    replace hB := hB.trans (hb.mono hB.size)
    clear hb
    go_wp2_with fail
    go_ret
    exact ⟨rfl, hB⟩
  · have h1 : ¬ (40 : Int) < (xs.length : Int) := by omega
    go_enter Try.func4, Try.ntmps4
    go_wp2_with fail
    refine (awake_any _).mono ?_
    rintro e w1 ⟨rfl, hb⟩
    replace hB := hB.trans (hb.mono hB.size)
    clear hb
    go_wp2_with fail
    refine (HO.out _ (h.below hB)).mono ?_
    rintro e w2 ⟨h2, hb⟩
    have hs1 := hB.size
    rcases h2 with ⟨hg8, p, g, rfl, hP, hp, hg⟩ | ⟨_, rfl⟩
    · replace hB := hB.trans (hb.mono hB.size)
      have hZ : IsT (w2.alloc (.cells tzero 29)) w2.heap.size 0 (fun _ => 0) (fun _ => false) := IsT.new w2 0 (fun _ => 0) (fun _ => false)
      have hpl := hP.ltp
      have hgl := hP.ltg
      replace hB := hB.alloc hB.size (.cells tzero 29)
      replace hP := hP.alloc (.cells tzero 29)
      have OK := Lib.hid (TopoOk.new hg8 hs)
      generalize hU : uni l = U at *
      clear hU hg8
      generalize hb6 : w2.heap.size = b at *
      go_wp2_with (first | (refine wpList_alloc29 rfl rfl ?_; try rw [hb6]) | (refine wpList_store29 rfl _ _ rfl b (l.length : Int) 0 (fun i => ofI l (i : Int)) (fun _ => 0) U.testBit (fun _ => false) rfl rfl hZ ?_; clear hZ; intro w3 h8 t3))
      have hS : St w p g b l w3 U U := ⟨OK.out, hP.turn t3 (by omega) (by omega), h8, hB.trans (t3.below (by omega)), by omega, by omega, by omega, by omega⟩
      clear OK h8 t3 hP hB hb hpl hgl hp hg hb6 hs1
      go_loopw [33] (fun i wr => ∃ (k on : Nat), k ≤ xs.length ∧ i = .int .i64 k ∧ Hid (St w p g b l wr on on)) (fun i _ => xs.length - (intOf i).toNat)
      case atStart => exact ⟨0, U, by omega, rfl, Lib.hid hS⟩
      case round =>
        clear hS
        obtain ⟨k, on, hk, rfl, HS⟩ := hrel
        have hS := HS.out
        clear HS
        by_cases hlt : k < xs.length
        · obtain ⟨bx, off, rfl, hx0, hx1⟩ := (hS.row HX.out).at hlt
          generalize hxx : xs.getD k (0, false) = x at *
          clear hxx
          have hb0 := hS.lt
          have hA := IsA.new wr 0 false
          go_wp2_with (first | (refine wpList_alloc46 rfl rfl ?_) | (refine wpList_store46 rfl _ _ rfl wr.heap.size x.1 0 x.2 false rfl rfl hA ?_; clear hA; intro w4 hA t4; replace hS := (hS.alloc (.cells #[.int .i64 0, .bool false] 46)).turn t4 hb0; clear t4) | (refine wpList_load29 rfl _ rfl b _ _ _ rfl hS.ref ?_) | (refine wpList_load46 rfl _ rfl wr.heap.size _ _ rfl hA ?_))
          clear hA hx0 hx1 hb0
          refine (do_any p g l on x _ hS.topo hS.ok).mono ?_
          rintro e w5 ⟨rfl, hP, ho⟩
          replace hS := hS.act (hS.ok.act x) hP ho
          clear ho hP
          have hZ : IsT (w5.alloc (.cells tzero 29)) w5.heap.size 0 (fun _ => 0) (fun _ => false) := IsT.new w5 0 (fun _ => 0) (fun _ => false)
          have hb0 := hS.lt
          replace hS := hS.alloc (.cells tzero 29)
          generalize hN : actN l on x = N at *
          clear hN
          go_wp2_with (first | (refine wpList_alloc29 rfl rfl ?_) | (refine wpList_load29 rfl _ rfl w5.heap.size _ _ _ rfl h10 ?_) | (refine wpList_store29 rfl _ _ rfl w5.heap.size (l.length : Int) 0 (fun i => ofI l (i : Int)) (fun _ => 0) N.testBit (fun _ => false) rfl rfl hZ ?_; clear hZ; intro w6 h10 t3; replace hS := hS.turn t3 hb0; clear t3) | (refine wpList_store29 rfl _ _ rfl b (l.length : Int) (l.length : Int) (fun i => ofI l (i : Int)) (fun i => ofI l (i : Int)) N.testBit on.testBit rfl rfl hS.ref ?_; intro w7 h7 t3; replace hS := hS.set t3 h7; clear t3 h7 h10 hb0) | (refine wpList_load29g (by rfl) _ rfl b _ _ _ rfl hS.ref ?_))
          refine (Is_topo p g l N _ hS.topo hS.ok).mono ?_
          rintro e w8 ⟨rfl, hb⟩
          replace hS := hS.below hb
          clear hb
          have hc := IsT.many hS.ref
          go_wp2_with fail
          clear hc
          go_loopw [55] (fun i wr => ∃ d : Nat, d ≤ l.length ∧ i = .int .i64 d ∧ Hid (St w p g b l wr N N)) (fun i _ => l.length - (intOf i).toNat)
          case atStart => exact ⟨0, by omega, rfl, Lib.hid hS⟩
          case round =>
            clear hS
            obtain ⟨d, hd, rfl, HS⟩ := hrel
            have hS := HS.out
            clear HS
            by_cases hdl : d < l.length
            · have he := tell_some hS.ok hdl
              have HQ := Lib.hid (Online_all p g l N (d : Int) _ hS.topo)
              generalize tellN l N (d : Int) true = M at *
              generalize tellE l (d : Int) = E at *
              go_wp2_with fail
              refine HQ.out.mono ?_
              rintro e w9 ⟨rfl, rfl⟩
              go_wp2_with fail
              exact ⟨⟨d + 1, by omega, by go_num, Lib.hid hS⟩, by simp [intOf]; omega⟩
            · go_wp2_with fail
              exact ⟨⟨k + 1, N, by omega, by go_num, Lib.hid hS⟩, by simp [intOf]; omega⟩
        · go_wp2_with fail
          go_ret
          exact ⟨rfl, hS.bel⟩
    · replace hB := hB.trans (hb.mono hB.size)
      have hZ : IsT (w2.alloc (.cells tzero 29)) w2.heap.size 0 (fun _ => 0) (fun _ => false) := IsT.new w2 0 (fun _ => 0) (fun _ => false)
      have hbs := hB.size
      replace hB := hB.alloc hB.size (.cells tzero 29)
      go_wp2_with (first | (refine wpList_alloc29 rfl rfl ?_) | (refine wpList_store29 rfl _ _ rfl w2.heap.size 0 0 (fun _ => 0) (fun _ => 0) (fun _ => false) (fun _ => false) rfl rfl hZ ?_; clear hZ; intro w3 h8 t3; replace hB := hB.trans (t3.below hbs)))
      go_ret
      exact ⟨rfl, hB⟩
end Go.Proofs.Ytbeklkgoiigccaa
