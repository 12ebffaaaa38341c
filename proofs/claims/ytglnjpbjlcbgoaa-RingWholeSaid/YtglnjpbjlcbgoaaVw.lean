/-
  RingWhole: each node is in one list at most, and what stands behind it there has it ahead. No condition.
-/
import Derived.Test.YtglnjpbjlcbgoaaVt
import Derived.Deep.LoopGhost
namespace Go.Proofs.Ytglnjpbjlcbgoaa
open Go.RowKit

def lastI (xs : List Nat) : Nat → Int
  | 0 => -1
  | i + 1 => (xs.getD i 0 : Nat)
theorem laI_last (xs : List Nat) : laI xs = lastI xs xs.length := by
  unfold laI
  cases h : xs.length with
  | zero => rfl
  | succ n => rw [if_pos (by omega)]; rfl
theorem prev_last {N : Nat} {ls : List (List Nat)} (ok : OkL N ls) {q i x : Nat} (h : At ls q i x) : prevI ls x = lastI (row ls q) i ∧ listI ls x = (q : Int) ∧ nextI ls x = stepI (row ls q) (i + 1) := by
  obtain ⟨e1, e2⟩ := at_find ok h
  refine ⟨?_, ?_, ?_⟩
  · unfold prevI
    rw [e1, e2, at_hasB h]
    cases i with
    | zero => rw [if_neg (by omega)]; rfl
    | succ i => rw [if_pos ⟨rfl, by omega⟩]; rfl
  · unfold listI
    rw [e1, at_hasB h]; rfl
  · unfold nextI stepI
    rw [e1, e2, at_hasB h]
    simp
/-- how many nodes the first lists have. -/
def cnt (ls : List (List Nat)) : Nat → Nat
  | 0 => 0
  | q + 1 => cnt ls q + (row ls q).length
theorem cnt_le {N : Nat} {ls : List (List Nat)} (ok : OkL N ls) : cnt ls 3 ≤ N := by
  have h := nodup_len N (row ls 0 ++ (row ls 1 ++ row ls 2)) ?_ ?_
  · simp only [List.length_append] at h
    simp only [cnt]
    omega
  · rw [List.nodup_append]
    refine ⟨ok.nodup 0, ?_, ?_⟩
    · rw [List.nodup_append]
      refine ⟨ok.nodup 1, ok.nodup 2, ?_⟩
      intro a ha b hb e
      subst e
      obtain ⟨i, hi⟩ := List.getElem?_of_mem ha
      obtain ⟨j, hj⟩ := List.getElem?_of_mem hb
      have := (ok.inj 1 i 2 j a hi hj).1
      omega
    · intro a ha b hb e
      subst e
      obtain ⟨i, hi⟩ := List.getElem?_of_mem ha
      rcases List.mem_append.1 hb with hb | hb
      · obtain ⟨j, hj⟩ := List.getElem?_of_mem hb
        have := (ok.inj 0 i 1 j a hi hj).1
        omega
      · obtain ⟨j, hj⟩ := List.getElem?_of_mem hb
        have := (ok.inj 0 i 2 j a hi hj).1
        omega
  · intro x hx
    rcases List.mem_append.1 hx with hx | hx
    · obtain ⟨i, hi⟩ := List.getElem?_of_mem hx
      exact ok.lt 0 i x hi
    · rcases List.mem_append.1 hx with hx | hx
      · obtain ⟨i, hi⟩ := List.getElem?_of_mem hx
        exact ok.lt 1 i x hi
      · obtain ⟨i, hi⟩ := List.getElem?_of_mem hx
        exact ok.lt 2 i x hi
theorem rowI_nat (ls : List (List Nat)) (q : Nat) : rowI ls (q : Int) = row ls q := by
  unfold rowI; rw [if_pos (by omega), Int.toNat_natCast]
set_option maxRecDepth 100000 in
set_option maxHeartbeats 4000000 in
theorem whole_any (v : Value) (xs : List (Int × Int × Int)) (w : World) (hx : RowA w v xs) :
    Calls Try.prog 5 #[v] w fun e w' => e = .returned (.bool true) ∧ Below w.heap.size w w' := by
  obtain ⟨a1, c1, rfl⟩ := hx.sl
  have HX := Lib.hid hx
  clear hx
  have hB := Below.refl w.heap.size w
  by_cases hlen : 80 < xs.length
  · have h1 : (80 : Int) < (xs.length : Int) := by omega
    clear hlen
    go_enter Try.func5, Try.ntmps5
    go_wp2_with fail
    refine (awake_any _).mono ?_
    rintro e w1 ⟨rfl, hb⟩
    replace hB := hB.trans (hb.mono hB.size)
    clear hb
    go_wp2_with fail
    refine (awake_any _).mono ?_
    rintro e w2 ⟨rfl, hb⟩
    replace hB := hB.trans (hb.mono hB.size)
    clear hb
    go_wp2_with fail
    go_ret
    exact ⟨rfl, hB⟩
  · have h1 : ¬ (80 : Int) < (xs.length : Int) := by omega
    go_enter Try.func5, Try.ntmps5
    go_wp2_with fail
    refine (awake_any _).mono ?_
    rintro e w1 ⟨rfl, hb⟩
    replace hB := hB.trans (hb.mono hB.size)
    clear hb
    go_wp2_with fail
    refine ((show Calls Try.prog 8 #[.int .i64 10, .int .i64 3] _ _ from New_ring 10 3 _ (by omega) (by omega) (by omega) (by omega))).mono ?_
    rintro e w2 ⟨⟨p, g, c, rfl, hP, hp, hg⟩, hb⟩
    have hs1 := hB.size
    replace hB := hB.trans (hb.mono hB.size)
    have hs2 := hB.size
    have hpl := hP.ltp
    have hgl := hP.ltg
    go_wp2_with fail
    refine ((show Calls Try.prog 9 #[.int .i64 10, .int .i64 3] _ _ from rNew_yes 10 3 _ (by omega) (by omega) (by omega) (by omega))).mono ?_
    rintro e w3 ⟨⟨v3, rfl, dv3, rfl, hd3⟩, hb3⟩
    have hsb := hb3.size
    replace hB := hB.trans (hb3.mono hB.size)
    replace hP := hP.belowS hb3
    clear hb hb3
    generalize hl0 : List.replicate 3 ([] : List Nat) = l0 at *
    have hZ := IsT.new w3 0 (.slice none 0 0)
    have hone3 := hd3.one
    replace hB := hB.alloc hB.size (.cells #[.int .i64 0, .slice none 0 0] 30)
    replace hP := hP.alloc (.cells #[.int .i64 0, .slice none 0 0] 30)
    replace hd3 := hd3.alloc (.cells #[.int .i64 0, .slice none 0 0] 30)
    have hl02 : l0.length = 3 := by rw [← hl0]; rfl
    have HL0 := Lib.hid hl02
    clear hl02 hl0
    go_wp2_with (first | (refine wpList_alloc30 rfl rfl ?_; generalize w3.alloc (.cells #[.int .i64 0, .slice none 0 0] 30) = w4 at *) | (refine wpList_store30 rfl _ _ rfl w3.heap.size _ _ 0 (.slice none 0 0) rfl rfl hZ hone3 ?_; intro w5 hZ5 t5))
    have HS : Hid (St w p g c w2.heap.size w3.heap.size 10 w5 l0 l0) := Lib.hid ⟨hP.turn t5 (by omega) (by omega), ⟨dv3, hd3.turn t5 hZ (by decide) (by decide), hZ5⟩, hB.trans (t5.below (by omega)), by omega, by omega, hsb, by omega, by omega⟩
    clear t5 hd3 hP hZ5 hZ hB hpl hgl hp hg hsb hs1 hs2 hone3
    generalize w2.heap.size = B at *
    generalize w3.heap.size = b at *
    go_loopw [37] (fun i wr => ∃ (k : Nat) (ls : List (List Nat)), k ≤ xs.length ∧ i = .int .i64 k ∧ Hid (ls.length = 3) ∧ Hid (St w p g c B b 10 wr ls ls)) (fun i _ => xs.length - (intOf i).toNat)
    case atStart => exact ⟨0, l0, by omega, rfl, HL0, HS⟩
    case round =>
      clear HS HL0
      obtain ⟨k, ls, hk, rfl, HL2, HS⟩ := hrel
      by_cases hlt : k < xs.length
      · skip
        obtain ⟨bx, off, rfl, hx0, hx1, hx2⟩ := (HS.out.row HX.out).at hlt
        generalize xs.getD k (0, 0, 0) = x at *
        obtain ⟨kd, av, nv⟩ := x
        simp only [] at hx0 hx1 hx2
        have hA := IsA.new wr 0 0 0
        have hb0 := HS.out.lt
        go_wp2_with (first | (refine wpList_alloc34 rfl rfl ?_; replace HS := Lib.hid (HS.out.alloc (.cells #[.int .u8 0, .int .i64 0, .int .i64 0] 34)); generalize wr.alloc (.cells #[.int .u8 0, .int .i64 0, .int .i64 0] 34) = w6 at *) | (refine wpList_store34 rfl _ _ rfl wr.heap.size kd av nv 0 0 0 rfl rfl hA ?_; intro w7 hA7 t7; replace HS := Lib.hid (HS.out.turn t7 hA (by decide) (by decide) hb0); clear hA t7 hx0 hx1 hx2; obtain ⟨dv, hdd, hbx⟩ := HS.out.ref) | (refine wpList_load30 rfl _ rfl b _ _ rfl hbx ?_) | (refine wpList_load34 rfl _ rfl wr.heap.size kd av nv rfl hA7 ?_))
        refine (do_any p g c B 10 _ ls kd av nv _ HS.out.ring ⟨dv, rfl, hdd⟩ HS.out.leB).mono ?_
        rintro e w9 ⟨⟨v9, rfl, dv9, rfl, h9⟩, hr9, ho9⟩
        replace HS := Lib.hid (HS.out.act hr9 ho9)
        have hone := h9.one
        clear hdd hbx hA7 ho9 hr9
        obtain ⟨dv0, hdd0, hbx0⟩ := HS.out.ref
        go_wp2_with (first | (refine wpList_store30 rfl _ _ rfl b _ _ _ _ rfl rfl hbx0 hone ?_; intro w12 hb12 t12; replace HS := Lib.hid (HS.out.set t12 h9 hb12); clear t12 hdd0 hbx0 h9 hb12))
        have HL3 : Hid ((actL 10 ls kd av nv).length = 3) := Lib.hid (by rw [actL_len]; exact HL2.out)
        generalize actL 10 ls kd av nv = lt at *
        clear HL2
        have HOK := Lib.hid HS.out.ring.ok
        have HCN := Lib.hid (cnt_le HOK.out)
        go_loopw [9, 48] (fun s i wr2 => ∃ (q : Nat) (sv : Int), q ≤ 3 ∧ i = .int .i64 (q : Int) ∧ s = .int .i64 sv ∧ Hid (sv = (cnt lt q : Nat)) ∧ Hid (St w p g c B b 10 wr2 lt lt)) (fun _ i _ => 3 - (intOf i).toNat)
        case atStart => exact ⟨0, 0, by omega, rfl, rfl, Lib.hid rfl, HS⟩
        case round =>
          clear HS
          obtain ⟨q, sv, hq, rfl, rfl, HSV, HS⟩ := hrel
          by_cases hq3 : q < 3
          · have hfir := First_any HS.out.ring (q : Int)
            rw [rowI_nat] at hfir
            have HFI := Lib.hid hfir
            have HCQ : Hid (cnt lt q + (row lt q).length ≤ 10) := Lib.hid (by
              have h1 := HCN.out
              simp only [cnt] at h1
              obtain rfl | rfl | rfl : q = 0 ∨ q = 1 ∨ q = 2 := by omega
              · simp only [cnt]; omega
              · simp only [cnt]; omega
              · simp only [cnt]; omega)
            clear hfir
            go_wp2_with fail
            refine HFI.out.mono ?_
            rw [step_zero]
            rintro e w13 ⟨rfl, s13⟩
            replace HS := Lib.hid (HS.out.sm s13)
            clear HFI s13
            go_wp2_with fail
            go_loopg [9, 11, 12] (row lt q).length (fun rem s la n wr3 => ∃ (i : Nat) (sv2 la2 n2 : Int), s = .int .i64 sv2 ∧ la = .int .i64 la2 ∧ n = .int .i64 n2 ∧ Hid (i + rem = (row lt q).length) ∧ Hid (sv2 = (cnt lt q : Nat) + (i : Nat)) ∧ Hid (la2 = lastI (row lt q) i) ∧ Hid (n2 = stepI (row lt q) i) ∧ Hid (St w p g c B b 10 wr3 lt lt))
            case atStart => exact ⟨0, _, _, _, rfl, rfl, rfl, Lib.hid (Nat.zero_add _), Lib.hid (by rw [HSV.out]; omega), Lib.hid rfl, Lib.hid rfl, HS⟩
            case round =>
              clear HS HSV
              obtain ⟨i, sv2, la2, n2, rfl, rfl, rfl, HI, HSV, HLA, HN2, HS⟩ := hrel
              by_cases hr0 : gk = 0
              · have hil : i = (row lt q).length := by have := HI.out; omega
                have hla := Last_any HS.out.ring (q : Int)
                rw [rowI_nat, laI_last, ← hil, ← HLA.out] at hla
                have HLL := Lib.hid hla
                obtain rfl : n2 = -1 := by rw [HN2.out, hil]; exact if_neg (Nat.lt_irrefl _)
                have HSV2 : Hid (sv2 = (cnt lt (q + 1) : Nat)) := Lib.hid (by rw [HSV.out, hil]; simp only [cnt]; omega)
                clear hla hil hr0 HI HN2 HLA HSV
                go_wp2_with fail
                refine HLL.out.mono ?_
                rintro e w14 ⟨rfl, s14⟩
                replace HS := Lib.hid (HS.out.sm s14)
                clear s14 HLL
                go_wp2_with fail
                exact ⟨⟨q + 1, _, by omega, by go_num, rfl, HSV2, HS⟩, by simp [intOf]; omega⟩
              · have hil : i < (row lt q).length := by have := HI.out; omega
                have hat := At.of_lt hil
                have hpl := prev_last HOK.out hat
                obtain ⟨x, hx9⟩ : ∃ x : Nat, x = (row lt q).getD i 0 := ⟨_, rfl⟩
                obtain rfl : n2 = (x : Int) := by rw [HN2.out, hx9]; exact if_pos hil
                have HLN : Hid (lastI (row lt q) (i + 1) = (x : Int)) := Lib.hid (by rw [hx9]; rfl)
                rw [← hx9, ← HLA.out] at hpl
                have HPL := Lib.hid hpl
                have hs9 : sv2 ≤ 9 := by have := HSV.out; have := HCQ.out; omega
                have hs0 : 0 ≤ sv2 := by have := HSV.out; omega
                have hrr := HS.out.ring
                have HGK : Hid (gk - 1 < gk) := Lib.hid (by omega)
                have HI2 : Hid (i + 1 + (gk - 1) = (row lt q).length) := Lib.hid (by have := HI.out; omega)
                clear hat hpl hx9 HLA HN2 hil hr0 HI
                go_wp2_with (first | (go_at_call 16; refine (List_any hrr (x : Int)).mono ?_; rw [HPL.out.2.1]; rintro e w15 ⟨rfl, s15⟩; have hr15 := hrr.sm s15; replace HS := Lib.hid (HS.out.sm s15); clear hrr s15) | (go_at_call 17; refine (Prev_any hr15 (x : Int)).mono ?_; rw [HPL.out.1]; rintro e w16 ⟨rfl, s16⟩; have hr16 := hr15.sm s16; replace HS := Lib.hid (HS.out.sm s16); clear hr15 s16) | (go_at_call 15; refine (Next_any hr16 (x : Int)).mono ?_; rw [HPL.out.2.2]; rintro e w17 ⟨rfl, s17⟩; replace HS := Lib.hid (HS.out.sm s17); clear hr16 s17))
                go_roundg (gk - 1)
                case measure => exact HGK.out
                case rel => exact ⟨i + 1, _, _, _, rfl, rfl, rfl, HI2, Lib.hid (by rw [HSV.out]; omega), Lib.hid HLN.out.symm, Lib.hid rfl, HS⟩
          · obtain rfl : q = 3 := by omega
            obtain ⟨n0, hn0⟩ : ∃ n0 : Nat, n0 = (row lt 0).length := ⟨_, rfl⟩
            obtain ⟨n1, hn1⟩ : ∃ n1 : Nat, n1 = (row lt 1).length := ⟨_, rfl⟩
            obtain ⟨n2, hn2⟩ : ∃ n2 : Nat, n2 = (row lt 2).length := ⟨_, rfl⟩
            have hsum : cnt lt 3 = n0 + n1 + n2 := by simp only [cnt]; omega
            have hle : n0 + n1 + n2 ≤ 10 := by rw [← hsum]; exact HCN.out
            have HN0 : Hid (((rowI lt 0).length : Int) = (n0 : Int)) := Lib.hid (by rw [hn0]; rfl)
            have HN1 : Hid (((rowI lt 1).length : Int) = (n1 : Int)) := Lib.hid (by rw [hn1]; rfl)
            have HN2 : Hid (((rowI lt 2).length : Int) = (n2 : Int)) := Lib.hid (by rw [hn2]; rfl)
            have hne : (sv != (n0 : Int) + (n1 : Int) + (n2 : Int)) = false := bne_ff (by rw [HSV.out, hsum]; omega)
            have hrr := HS.out.ring
            clear hn0 hn1 hn2 hsum HSV
            go_wp2_with (first | (go_at_call 19; refine (Len_any p g c 10 0 lt _ hrr).mono ?_; rw [HN0.out]; rintro e w20 ⟨rfl, hb20⟩; have hr20 := hrr.belowS hb20; replace HS := Lib.hid (HS.out.below hb20); clear hrr hb20) | (go_at_call 19; refine (Len_any p g c 10 1 lt _ hr20).mono ?_; rw [HN1.out]; rintro e w21 ⟨rfl, hb21⟩; have hr21 := hr20.belowS hb21; replace HS := Lib.hid (HS.out.below hb21); clear hr20 hb21) | (go_at_call 19; refine (Len_any p g c 10 2 lt _ hr21).mono ?_; rw [HN2.out]; rintro e w22 ⟨rfl, hb22⟩; replace HS := Lib.hid (HS.out.below hb22); clear hr21 hb22))
            exact ⟨⟨k + 1, _, by omega, by go_num, HL3, HS⟩, by simp [intOf]; omega⟩
      · go_wp2_with fail
        go_ret
        exact ⟨rfl, HS.out.bel⟩
end Go.Proofs.Ytglnjpbjlcbgoaa
