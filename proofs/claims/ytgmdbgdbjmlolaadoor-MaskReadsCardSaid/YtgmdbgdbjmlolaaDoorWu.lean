/-
  Contract of the document's answer roundelref01.Read. Condition: a text of at most 400 bytes.
-/
import Derived.Test.YtgmdbgdbjmlolaaDoorWt
namespace Go.Proofs.YtgmdbgdbjmlolaaDoor
open Go.RowKit Go.Shelf

/-- for the loop's measure. -/
def strLn : Value → Nat
  | .string b => b.size
  | _ => 0
/-- a set and a code, as values. -/
def refVals (o : Option Nat) : Value := .tuple #[.agg (arrB (o.getD 0).testBit), .int .i64 (if o.isSome then 0 else 17)]
/-- what the loop of Read keeps. -/
def RefI (l : List UInt8) (w : World) (v : Value) (W : World) : Prop :=
  ∃ (s : List UInt8) (acc f : Nat), v = .string ⟨s.toArray⟩ ∧ s.length ≤ 400 ∧ acc < 18446744073709551616 ∧ IsArr W (w.heap.size + 1) acc.testBit ∧ IsArr W w.heap.size (fun _ => false) ∧ Below w.heap.size w W ∧ w.heap.size + 2 ≤ W.heap.size ∧ Hid (refText l = refSpec f s acc) ∧ s.length < f
theorem drop_bytes (s : List UInt8) (e : Nat) : (⟨s.toArray⟩ : ByteArray).extract e s.length = ⟨(s.drop e).toArray⟩ := by
  apply ByteArray.ext
  apply Array.ext'
  simp [List.take_of_length_le]
/-- the first byte, as the walk reads it. -/
theorem head_bytes {s : List UInt8} {c : UInt8} (h : 0 < s.length) : (s.head? = some c → (((((⟨s.toArray⟩ : ByteArray)[0]'h).toNat : Int) == (c.toNat : Int)) = true)) ∧ (¬ s.head? = some c → (((((⟨s.toArray⟩ : ByteArray)[0]'h).toNat : Int) == (c.toNat : Int)) = false)) := by
  cases s with
  | nil => simp at h
  | cons x s =>
    have e : ((⟨(x :: s).toArray⟩ : ByteArray)[0]'h) = x := rfl
    rw [e]
    constructor
    · intro hx; simp at hx; rw [hx]; simp
    · intro hx
      simp at hx
      rw [beq_eq_false_iff_ne]
      intro hc
      exact hx (UInt8.toNat_inj.1 (by omega))
theorem ez : (fun _ : Nat => false) = (0 : Nat).testBit := by funext j; simp

set_option maxRecDepth 100000 in
set_option maxHeartbeats 4000000 in
theorem RefRead_any (l : List UInt8) (hl : l.length ≤ 400) (w : World) (h : ¬ l = noneL) :
    Calls Tryd.prog 31 #[encS l] w fun e w' => e = .returned (refVals (refMask l)) ∧ Below w.heap.size w w' := by
  have hne : (l == [110, 111, 110, 101]) = false := beq_eq_false_iff_ne.2 h
  have hspec : refMask l = match refText l with | some n => if textOf n = l then some n else none | none => none := by unfold refMask; rw [if_neg h]; rfl
  generalize refMask l = q at hspec
  have HQ := Lib.hid hspec
  clear hspec h
  have hz1 : IsArr ((w.alloc (.cells (arrB fun _ => false) 30)).alloc (.cells (arrB fun _ => false) 30)) (w.heap.size + 1) (fun _ => false) := by
    have h := IsArr.new (w.alloc (.cells (arrB fun _ => false) 30)) (fun _ => false)
    rw [World.size_alloc] at h
    exact h
  have hz0 : IsArr ((w.alloc (.cells (arrB fun _ => false) 30)).alloc (.cells (arrB fun _ => false) 30)) w.heap.size (fun _ => false) := (IsArr.new w _).alloc _
  have hB : Below w.heap.size w ((w.alloc (.cells (arrB fun _ => false) 30)).alloc (.cells (arrB fun _ => false) 30)) := ((Below.refl _ w).alloc (Nat.le_refl _) _).alloc (by simp) _
  unfold encS
  go_enter Tryd.func31, Tryd.ntmps31
  go_wp2_with (first | (refine wpList_alloc30 rfl rfl ?_; try simp only [World.size_alloc]) | (refine wpList_build30 rfl rfl ?_) | (refine wpList_store30 rfl _ _ rfl (w.heap.size + 1) (fun _ => false) (fun _ => false) rfl rfl hz1 ?_; intro w1 i1 t1))
  have hi0 := hz0.turn t1 (by omega)
  have hb1 := hB.trans (t1.below (Nat.le_succ _))
  have hs1 : w.heap.size + 2 ≤ w1.heap.size := by have := i1.lt; omega
  clear hz1 hz0 hB t1
  rw [ez] at i1
  go_loopw [5] (fun v wr => RefI l w v wr) (fun v _ => strLn v)
  case atStart => exact ⟨l, 0, l.length + 1, rfl, hl, by omega, i1, hi0, hb1, hs1, Lib.hid rfl, by omega⟩
  case round =>
    obtain ⟨s, acc, f, rfl, hsl, hacc, hi, hj, hb, hsz, HF, hf⟩ := hrel
    match f, hf, HF with
    | f + 1, hf, HF =>
    have hs := HF.out
    unfold refSpec at hs
    have H43 := Lib.hid (fun W => number_any s hsl W)
    have hlt := Lib.hid (fun n k (h : numFrom s 2 = some (n, k)) => numFrom_lt h)
    unfold encS numVals at H43
    generalize numFrom s 2 = r at hs H43 hlt
    have HS := Lib.hid hs
    clear hs HF
    go_wp2_with fail
    refine (H43.out wr).mono ?_
    rintro e w2 ⟨rfl, hb2⟩
    have hi2 := hi.below hb2 (by omega)
    have hj2 := hj.below hb2 (by omega)
    have hB2 := hb.trans (hb2.mono hb.size)
    have hsz2 : w.heap.size + 2 ≤ w2.heap.size := Nat.le_trans hsz hb2.size
    clear hi hj hb hsz hb2 H43
    cases r with
    | none =>
      have HR : Hid (q = none) := Lib.hid (by rw [HQ.out, HS.out])
      go_wp2_with (first | (refine wpList_build30 rfl rfl ?_) | (refine wpList_store30 rfl _ _ rfl w.heap.size (fun _ => false) (fun _ => false) rfl rfl hj2 ?_; intro w3 i3 t3))
      refine bodyPost_ret (results30 rfl _ w3 w.heap.size (fun _ => false) (.int .i64 17) rfl rfl i3) rfl ?_
      refine ⟨?_, hB2.trans (t3.below (Nat.le_refl _))⟩
      rw [HR.out, ez]; rfl
    | some p =>
      obtain ⟨a, e⟩ := p
      obtain ⟨ha, he1, he2, hes⟩ := hlt.out a e rfl
      clear hlt
      simp only at HS
      have hdl : (s.drop e).length + e = s.length := by rw [List.length_drop]; omega
      have hx : (⟨s.toArray⟩ : ByteArray).extract e s.length = ⟨(s.drop e).toArray⟩ := drop_bytes s e
      generalize s.drop e = t at HS hdl hx
      by_cases htn : t = []
      · subst htn
        have HT : Hid (refText l = some (addRun acc (a, a))) := Lib.hid (by rw [HS.out]; rfl)
        clear HS
        go_wp2_with fail
        go_loopw [9] (fun i wr => ∃ k n : Nat, k ≤ a + 1 - a ∧ i = .int .i64 ((a + k : Nat) : Int) ∧ n < 18446744073709551616 ∧ Hid (n = addTo acc a k) ∧ IsArr wr (w.heap.size + 1) n.testBit ∧ IsArr wr w.heap.size (fun _ => false) ∧ Below w.heap.size w wr ∧ w.heap.size + 2 ≤ wr.heap.size) (fun i _ => a + 1 - (intOf i).toNat)
        case atStart => exact ⟨0, acc, Nat.zero_le _, rfl, hacc, Lib.hid rfl, hi2, hj2, hB2, hsz2⟩
        case round =>
          clear hi2 hj2 hB2 hsz2
          obtain ⟨k, n, hk, rfl, hn, HN, hi, hj, hb, hsz⟩ := hrel
          by_cases hkb : a + k ≤ a
          · have hc2 := hi.cell (i := a + k) (by omega)
            have hf2 := hi.frozen (a + k)
            have HN2 : Hid (withN n ((a + k : Nat) : Int) = addTo acc a (k + 1)) := Lib.hid (by rw [HN.out]; rfl)
            have hwl := withN_lt ((a + k : Nat) : Int) hn
            have hm : a + k < 64 := by omega
            clear HN
            go_wp2_with fail
            exact ⟨⟨k + 1, withN n ((a + k : Nat) : Int), by omega, by go_num, hwl, HN2, (hi.set (a + k) true).cast (upd_with hm), hj.turn (Turn.setCell _ _ _ _) (by omega), hb.trans ((Turn.setCell _ _ _ _).below (Nat.le_succ _)), by simpa using hsz⟩, by simp [intOf]; omega⟩
          · have hke : k = a + 1 - a := by omega
            subst hke
            have HT2 : Hid (refText l = some n) := Lib.hid (by rw [HT.out, HN.out]; rfl)
            have H30 := Lib.hid (fun W => RefText_any n hn W)
            unfold encS at H30
            have hq := HQ.out
            rw [HT2.out] at hq
            simp only at hq
            generalize textOf n = tx at hq H30
            clear HQ HT HT2 HN
            go_wp2_with (refine wpList_load30 rfl _ rfl (w.heap.size + 1) n.testBit rfl hi ?_)
            refine (H30.out _).mono ?_
            rintro e5 w5 ⟨rfl, hb5⟩
            have hi5 := hi.below hb5 (by omega)
            have hj5 := hj.below hb5 (by omega)
            have hB5 := hb.trans (hb5.mono hb.size)
            clear H30
            by_cases hte : tx = l
            · have hqe : (tx == l) = true := by rw [hte]; exact beq_self_eq_true l
              rw [if_pos hte] at hq
              have HR := Lib.hid hq
              clear hte hq
              go_wp2_with (first | (refine wpList_load30 rfl _ rfl (w.heap.size + 1) n.testBit rfl hi5 ?_) | (refine wpList_store30 rfl _ _ rfl w.heap.size n.testBit (fun _ => false) rfl rfl hj5 ?_; intro w6 i6 t6))
              refine bodyPost_ret (results30 rfl _ w6 w.heap.size n.testBit (.int .i64 0) rfl rfl i6) rfl ?_
              exact ⟨by rw [HR.out]; rfl, hB5.trans (t6.below (Nat.le_refl _))⟩
            · have hqe : (tx == l) = false := beq_eq_false_iff_ne.2 hte
              rw [if_neg hte] at hq
              have HR := Lib.hid hq
              clear hte hq
              go_wp2_with (first | (refine wpList_build30 rfl rfl ?_) | (refine wpList_store30 rfl _ _ rfl w.heap.size (fun _ => false) (fun _ => false) rfl rfl hj5 ?_; intro w6 i6 t6))
              refine bodyPost_ret (results30 rfl _ w6 w.heap.size (fun _ => false) (.int .i64 17) rfl rfl i6) rfl ?_
              refine ⟨?_, hB5.trans (t6.below (Nat.le_refl _))⟩
              rw [HR.out, ez]; rfl

      · have htp : 0 < t.length := List.length_pos_iff.2 htn
        have hte : t.isEmpty = false := by cases t with | nil => exact absurd rfl htn | cons _ _ => rfl
        by_cases h45 : t.head? = some 45
        · have hs2 := HS.out
          unfold lastRef at hs2
          rw [if_pos h45] at hs2
          have h45b : ((((⟨t.toArray⟩ : ByteArray)[0]'htp).toNat : Int) == 45) = true := (head_bytes htp).1 h45
          have htx := drop_bytes t 1
          have hdt : (t.drop 1).length + 1 = t.length := by rw [List.length_drop]; omega
          have hdd : ∀ m, t.drop (1 + m) = (t.drop 1).drop m := fun m => by rw [List.drop_drop]
          have hex : ∀ m, (⟨t.toArray⟩ : ByteArray).extract (1 + m) t.length = ⟨((t.drop 1).drop m).toArray⟩ := fun m => by rw [← hdd, drop_bytes]
          have HX := Lib.hid hex
          have H43 := Lib.hid (fun W => number_any (t.drop 1) (by omega) W)
          have hlt := Lib.hid (fun n k (h : numFrom (t.drop 1) 2 = some (n, k)) => numFrom_lt h)
          have HS3 := Lib.hid hs2
          simp only [hdd] at HS3
          clear hs2 HS h45 hdd hex
          unfold encS numVals at H43
          generalize t.drop 1 = t1 at HS3 htx hdt HX H43 hlt
          generalize numFrom t1 2 = r2 at HS3 H43 hlt
          go_wp2_with fail
          refine (H43.out w2).mono ?_
          rintro e3 w3 ⟨rfl, hb3⟩
          have hi3 := hi2.below hb3 (by omega)
          have hj3 := hj2.below hb3 (by omega)
          have hB3 := hB2.trans (hb3.mono hB2.size)
          have hsz3 : w.heap.size + 2 ≤ w3.heap.size := Nat.le_trans hsz2 hb3.size
          clear hi2 hj2 hB2 hsz2 hb3 H43
          cases r2 with
          | none =>
            have HR : Hid (q = none) := Lib.hid (by rw [HQ.out, HS3.out])
            go_wp2_with (first | (refine wpList_build30 rfl rfl ?_) | (refine wpList_store30 rfl _ _ rfl w.heap.size (fun _ => false) (fun _ => false) rfl rfl hj3 ?_; intro w4 i4 t4))
            refine bodyPost_ret (results30 rfl _ w4 w.heap.size (fun _ => false) (.int .i64 17) rfl rfl i4) rfl ?_
            refine ⟨?_, hB3.trans (t4.below (Nat.le_refl _))⟩
            rw [HR.out, ez]; rfl
          | some p2 =>
            obtain ⟨b, e2⟩ := p2
            obtain ⟨hb64, he21, he22, hes2⟩ := hlt.out b e2 rfl
            have hrl : (t1.drop e2).length + e2 = t1.length := by rw [List.length_drop]; omega
            have hex2 := HX.out e2
            simp only at HS3
            generalize t1.drop e2 = r at HS3 hrl hex2
            have HT : Hid (refText l = if r = [] then some (addRun acc (a, b)) else if r.head? = some 44 then refSpec f (r.drop 1) (addRun acc (a, b)) else none) := Lib.hid HS3.out
            clear HS3 hlt HX
            go_wp2_with fail
            go_loopw [9] (fun i wr => ∃ k n : Nat, k ≤ b + 1 - a ∧ i = .int .i64 ((a + k : Nat) : Int) ∧ n < 18446744073709551616 ∧ Hid (n = addTo acc a k) ∧ IsArr wr (w.heap.size + 1) n.testBit ∧ IsArr wr w.heap.size (fun _ => false) ∧ Below w.heap.size w wr ∧ w.heap.size + 2 ≤ wr.heap.size) (fun i _ => b + 1 - (intOf i).toNat)
            case atStart => exact ⟨0, acc, Nat.zero_le _, rfl, hacc, Lib.hid rfl, hi3, hj3, hB3, hsz3⟩
            case round =>
              clear hi3 hj3 hB3 hsz3
              obtain ⟨k, n, hk, rfl, hn, HN, hi, hj, hb, hsz⟩ := hrel
              by_cases hkb : a + k ≤ b
              · have hc2 := hi.cell (i := a + k) (by omega)
                have hf2 := hi.frozen (a + k)
                have HN2 : Hid (withN n ((a + k : Nat) : Int) = addTo acc a (k + 1)) := Lib.hid (by rw [HN.out]; rfl)
                have hwl := withN_lt ((a + k : Nat) : Int) hn
                have hm : a + k < 64 := by omega
                clear HN
                go_wp2_with fail
                exact ⟨⟨k + 1, withN n ((a + k : Nat) : Int), by omega, by go_num, hwl, HN2, (hi.set (a + k) true).cast (upd_with hm), hj.turn (Turn.setCell _ _ _ _) (by omega), hb.trans ((Turn.setCell _ _ _ _).below (Nat.le_succ _)), by simpa using hsz⟩, by simp [intOf]; omega⟩
              · have hke : k = b + 1 - a := by omega
                subst hke
                by_cases hrn : r = []
                · subst hrn
                  have HT2 : Hid (refText l = some n) := Lib.hid (by rw [HT.out, if_pos rfl, HN.out]; rfl)
                  have H30 := Lib.hid (fun W => RefText_any n hn W)
                  unfold encS at H30
                  have hq := HQ.out
                  rw [HT2.out] at hq
                  simp only at hq
                  generalize textOf n = tx at hq H30
                  clear HQ HT HT2 HN
                  go_wp2_with (refine wpList_load30 rfl _ rfl (w.heap.size + 1) n.testBit rfl hi ?_)
                  refine (H30.out _).mono ?_
                  rintro e5 w5 ⟨rfl, hb5⟩
                  have hi5 := hi.below hb5 (by omega)
                  have hj5 := hj.below hb5 (by omega)
                  have hB5 := hb.trans (hb5.mono hb.size)
                  clear H30
                  by_cases hte : tx = l
                  · have hqe : (tx == l) = true := by rw [hte]; exact beq_self_eq_true l
                    rw [if_pos hte] at hq
                    have HR := Lib.hid hq
                    clear hte hq
                    go_wp2_with (first | (refine wpList_load30 rfl _ rfl (w.heap.size + 1) n.testBit rfl hi5 ?_) | (refine wpList_store30 rfl _ _ rfl w.heap.size n.testBit (fun _ => false) rfl rfl hj5 ?_; intro w6 i6 t6))
                    refine bodyPost_ret (results30 rfl _ w6 w.heap.size n.testBit (.int .i64 0) rfl rfl i6) rfl ?_
                    exact ⟨by rw [HR.out]; rfl, hB5.trans (t6.below (Nat.le_refl _))⟩
                  · have hqe : (tx == l) = false := beq_eq_false_iff_ne.2 hte
                    rw [if_neg hte] at hq
                    have HR := Lib.hid hq
                    clear hte hq
                    go_wp2_with (first | (refine wpList_build30 rfl rfl ?_) | (refine wpList_store30 rfl _ _ rfl w.heap.size (fun _ => false) (fun _ => false) rfl rfl hj5 ?_; intro w6 i6 t6))
                    refine bodyPost_ret (results30 rfl _ w6 w.heap.size (fun _ => false) (.int .i64 17) rfl rfl i6) rfl ?_
                    refine ⟨?_, hB5.trans (t6.below (Nat.le_refl _))⟩
                    rw [HR.out, ez]; rfl

                · have hrp : 0 < r.length := List.length_pos_iff.2 hrn
                  have hre : r.isEmpty = false := by cases r with | nil => exact absurd rfl hrn | cons _ _ => rfl
                  have hrx := drop_bytes r 1
                  have hdr : (r.drop 1).length + 1 = r.length := by rw [List.length_drop]; omega
                  by_cases h44 : r.head? = some 44
                  · have HT2 : Hid (refText l = refSpec f (r.drop 1) n) := Lib.hid (by rw [HT.out, if_neg hrn, if_pos h44, HN.out]; rfl)
                    have h44b : ((((⟨r.toArray⟩ : ByteArray)[0]'hrp).toNat : Int) == 44) = true := (head_bytes hrp).1 h44
                    clear HT HN h44
                    have hrt : r.tail = r.drop 1 := List.drop_one.symm
                    generalize r.drop 1 = rr at HT2 hrx hdr hrt
                    go_wp2_with fail
                    go_round
                    case rel => exact ⟨rr, n, f, rfl, by omega, hn, hi, hj, hb, hsz, HT2, by omega⟩
                    case measure =>
                      have e1 : (⟨rr.toArray⟩ : ByteArray).size = rr.length := rfl
                      have e2 : (⟨s.toArray⟩ : ByteArray).size = s.length := rfl
                      simp only [strLn, e1, e2]; omega
                  · have HR : Hid (q = none) := Lib.hid (by rw [HQ.out, HT.out, if_neg hrn, if_neg h44])
                    have h44b : ((((⟨r.toArray⟩ : ByteArray)[0]'hrp).toNat : Int) == 44) = false := (head_bytes hrp).2 h44
                    clear HT HN h44 HQ
                    go_wp2_with (first | (refine wpList_build30 rfl rfl ?_) | (refine wpList_store30 rfl _ _ rfl w.heap.size (fun _ => false) (fun _ => false) rfl rfl hj ?_; intro w6 i6 t6))
                    refine bodyPost_ret (results30 rfl _ w6 w.heap.size (fun _ => false) (.int .i64 17) rfl rfl i6) rfl ?_
                    refine ⟨?_, hb.trans (t6.below (Nat.le_refl _))⟩
                    rw [HR.out, ez]; rfl

        · have HT : Hid (refText l = if t = [] then some (addRun acc (a, a)) else if t.head? = some 44 then refSpec f (t.drop 1) (addRun acc (a, a)) else none) := Lib.hid (by rw [HS.out]; unfold lastRef; rw [if_neg h45])
          have h45b : ((((⟨t.toArray⟩ : ByteArray)[0]'htp).toNat : Int) == 45) = false := (head_bytes htp).2 h45
          clear HS h45
          go_wp2_with fail
          go_loopw [9] (fun i wr => ∃ k n : Nat, k ≤ a + 1 - a ∧ i = .int .i64 ((a + k : Nat) : Int) ∧ n < 18446744073709551616 ∧ Hid (n = addTo acc a k) ∧ IsArr wr (w.heap.size + 1) n.testBit ∧ IsArr wr w.heap.size (fun _ => false) ∧ Below w.heap.size w wr ∧ w.heap.size + 2 ≤ wr.heap.size) (fun i _ => a + 1 - (intOf i).toNat)
          case atStart => exact ⟨0, acc, Nat.zero_le _, rfl, hacc, Lib.hid rfl, hi2, hj2, hB2, hsz2⟩
          case round =>
            clear hi2 hj2 hB2 hsz2
            obtain ⟨k, n, hk, rfl, hn, HN, hi, hj, hb, hsz⟩ := hrel
            by_cases hkb : a + k ≤ a
            · have hc2 := hi.cell (i := a + k) (by omega)
              have hf2 := hi.frozen (a + k)
              have HN2 : Hid (withN n ((a + k : Nat) : Int) = addTo acc a (k + 1)) := Lib.hid (by rw [HN.out]; rfl)
              have hwl := withN_lt ((a + k : Nat) : Int) hn
              have hm : a + k < 64 := by omega
              clear HN
              go_wp2_with fail
              exact ⟨⟨k + 1, withN n ((a + k : Nat) : Int), by omega, by go_num, hwl, HN2, (hi.set (a + k) true).cast (upd_with hm), hj.turn (Turn.setCell _ _ _ _) (by omega), hb.trans ((Turn.setCell _ _ _ _).below (Nat.le_succ _)), by simpa using hsz⟩, by simp [intOf]; omega⟩
            · have hke : k = a + 1 - a := by omega
              subst hke
              by_cases hrn : t = []
              · exact absurd hrn htn

              · have hrp : 0 < t.length := List.length_pos_iff.2 hrn
                have hre : t.isEmpty = false := by cases t with | nil => exact absurd rfl hrn | cons _ _ => rfl
                have hrx := drop_bytes t 1
                have hdr : (t.drop 1).length + 1 = t.length := by rw [List.length_drop]; omega
                by_cases h44 : t.head? = some 44
                · have HT2 : Hid (refText l = refSpec f (t.drop 1) n) := Lib.hid (by rw [HT.out, if_neg hrn, if_pos h44, HN.out]; rfl)
                  have h44b : ((((⟨t.toArray⟩ : ByteArray)[0]'hrp).toNat : Int) == 44) = true := (head_bytes hrp).1 h44
                  clear HT HN h44
                  have hrt : t.tail = t.drop 1 := List.drop_one.symm
                  generalize t.drop 1 = rr at HT2 hrx hdr hrt
                  go_wp2_with fail
                  go_round
                  case rel => exact ⟨rr, n, f, rfl, by omega, hn, hi, hj, hb, hsz, HT2, by omega⟩
                  case measure =>
                    have e1 : (⟨rr.toArray⟩ : ByteArray).size = rr.length := rfl
                    have e2 : (⟨s.toArray⟩ : ByteArray).size = s.length := rfl
                    simp only [strLn, e1, e2]; omega
                · have HR : Hid (q = none) := Lib.hid (by rw [HQ.out, HT.out, if_neg hrn, if_neg h44])
                  have h44b : ((((⟨t.toArray⟩ : ByteArray)[0]'hrp).toNat : Int) == 44) = false := (head_bytes hrp).2 h44
                  clear HT HN h44 HQ
                  go_wp2_with (first | (refine wpList_build30 rfl rfl ?_) | (refine wpList_store30 rfl _ _ rfl w.heap.size (fun _ => false) (fun _ => false) rfl rfl hj ?_; intro w6 i6 t6))
                  refine bodyPost_ret (results30 rfl _ w6 w.heap.size (fun _ => false) (.int .i64 17) rfl rfl i6) rfl ?_
                  refine ⟨?_, hb.trans (t6.below (Nat.le_refl _))⟩
                  rw [HR.out, ez]; rfl
end Go.Proofs.YtgmdbgdbjmlolaaDoor
