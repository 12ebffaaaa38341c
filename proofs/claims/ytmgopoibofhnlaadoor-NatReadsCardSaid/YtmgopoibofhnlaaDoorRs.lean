/-
  The walk of NatReads: for every text it answers true and leaves all memory as it was. Condition: that of every string, that its length is one.
-/
import Derived.Test.YtmgopoibofhnlaaDoorTy
import Derived.Test.YtmgopoibofhnlaaDoorTz
namespace Go.Proofs.YtmgopoibofhnlaaDoor
open Go.RowKit Go.Dig Go.Shelf Go.Proofs

theorem len_read {s : List UInt8} (h : Dgt s) : (L (readN 0 s)).length ≤ s.length := by
  have h1 := readN_lt _ s rfl h
  exact (dig_len (by omega) (readN 0 s) s.length).2 (Nat.lt_of_lt_of_le h1 (Nat.pow_le_pow_left (by omega) _))
set_option maxRecDepth 100000 in
set_option maxHeartbeats 4000000 in
theorem reads_long (s : List UInt8) (w : World) (hlen : 120 < s.length) (_hmax : s.length ≤ 9223372036854775807) :
    Calls Tryd.prog 9 #[.string ⟨s.toArray⟩] w fun e w' => e = .returned (.bool true) ∧ Below w.heap.size w w' := by
  go_enter Tryd.func9, Tryd.ntmps9
  have H1 := Lib.hid (awake_any w)
  go_wp2_with fail
  refine H1.out.mono ?_
  rintro e w1 ⟨rfl, hb⟩
  have hB := hb
  clear hb H1
  have H2 := Lib.hid (awake_any w1)
  go_wp2_with fail
  refine H2.out.mono ?_
  rintro e w2 ⟨rfl, hb⟩
  replace hB := hB.trans (hb.mono hB.size)
  clear hb H2
  go_wp2_with fail
  go_ret
  exact ⟨rfl, hB⟩

set_option maxRecDepth 100000 in
set_option maxHeartbeats 4000000 in
theorem reads_no (s : List UInt8) (w : World) (hlen : s.length ≤ 120) (h : ¬ IsText s) :
    Calls Tryd.prog 9 #[.string ⟨s.toArray⟩] w fun e w' => e = .returned (.bool true) ∧ Below w.heap.size w w' := by
  have HN := Lib.hid h
  clear h
  go_enter Tryd.func9, Tryd.ntmps9
  have H1 := Lib.hid (awake_any w)
  go_wp2_with fail
  refine H1.out.mono ?_
  rintro e w1 ⟨rfl, hb⟩
  have hB := hb
  clear hb H1
  have H2 := Lib.hid (nRead_no s (by omega) HN.out w1)
  go_wp2_with fail
  refine H2.out.mono ?_
  rintro e w2 ⟨rfl, rfl⟩
  clear H2
  have H3 := Lib.hid (rRead_no s (by omega) HN.out w1)
  go_wp2_with fail
  refine H3.out.mono ?_
  rintro e w3 ⟨rfl, hb⟩
  replace hB := hB.trans (hb.mono hB.size)
  clear hb H3
  go_wp2_with fail
  go_ret
  exact ⟨rfl, hB⟩

set_option maxRecDepth 100000 in
set_option maxHeartbeats 4000000 in
theorem reads_yes (s : List UInt8) (w : World) (hlen : s.length ≤ 120) (h : IsText s) :
    Calls Tryd.prog 9 #[.string ⟨s.toArray⟩] w fun e w' => e = .returned (.bool true) ∧ Below w.heap.size w w' := by
  have HN := Lib.hid h
  have HL : Hid ((L (readN 0 s)).length ≤ 1000) := Lib.hid (Nat.le_trans (len_read h.1) (by omega))
  clear h
  go_enter Tryd.func9, Tryd.ntmps9
  have H1 := Lib.hid (awake_any w)
  go_wp2_with fail
  refine H1.out.mono ?_
  rintro e w1 ⟨rfl, hb⟩
  have hB := hb
  clear hb H1
  have H2 := Lib.hid (nRead_yes s (by omega) HN.out w1)
  go_wp2_with fail
  refine H2.out.mono ?_
  rintro e w2 ⟨a, rfl, ra, hb⟩
  replace hB := hB.trans (hb.mono hB.size)
  clear hb H2
  have H3 := Lib.hid (rRead_yes s (by omega) HN.out w2)
  go_wp2_with fail
  refine H3.out.mono ?_
  rintro e w3 ⟨t, rfl, rt, hb⟩
  replace ra := ra.below hb
  replace hB := hB.trans (hb.mono hB.size)
  clear hb H3
  have H4 := Lib.hid (Is_true a t (readN 0 s) w3 ra rt HL.out)
  go_wp2_with fail
  refine H4.out.mono ?_
  rintro e w4 ⟨rfl, hb⟩
  replace ra := ra.below hb
  replace rt := rt.below hb
  replace hB := hB.trans (hb.mono hB.size)
  clear hb H4
  go_wp2_with fail
  go_ret
  exact ⟨rfl, hB⟩

theorem reads_any (s : ByteArray) (hs : s.size ≤ maxLen) (w : World) :
    Calls Tryd.prog 9 #[.string s] w fun e w' => e = .returned (.bool true) ∧ Below w.heap.size w w' := by
  obtain ⟨l, rfl⟩ : ∃ l : List UInt8, s = ⟨l.toArray⟩ := ⟨s.data.toList, by rfl⟩
  have hl : l.length ≤ maxLen := by simpa [ByteArray.size] using hs
  by_cases h : l.length ≤ 120
  · by_cases ht : IsText l
    · exact reads_yes l w h ht
    · exact reads_no l w h ht
  · exact reads_long l w (by omega) (by unfold maxLen at hl; omega)
end Go.Proofs.YtmgopoibofhnlaaDoor
