/-
  Contract of the forest's Move. Condition: the forest is one.
-/
import Derived.Test.YthndfhkkaichiaaXi
namespace Go.Proofs.Ythndfhkkaichiaa
open Go.RowKit Go.Maps

section
variable (fp B : Nat) (L : List Gr) (l : List Int) (m k : Int)
set_option maxRecDepth 100000 in
set_option maxHeartbeats 4000000 in
theorem Move_noX (x p : Int) (w : World) (h : IsF w B fp L l m k) (hx : I64 x)  (hk : k < 1000) (hh : has L x = false)   :
    Calls Try.prog 15 #[.pointer (some ⟨fp, 0, none⟩), .int .i64 x, .int .i64 p] w fun e w' => e = .returned (.int .i64 (moveC L x p)) ∧ IsF w' B fp (moveN L x p) l m (k + 1) ∧ Wr [77] B w w' := by
  have hc : moveC L x p = 4 := by unfold moveC; rw [if_pos (.inl hh)]
  have HC := Lib.hid hc
  have HN : Hid (moveN L x p = L) := Lib.hid (by unfold moveN; rw [hc]; rfl)
  obtain ⟨tp, tg, mp, bl, hf, hB⟩ := h.fo
  have h1 := hf.c1
  have HL := hf.lookN hx hh
  have HH := Lib.hid hh
  have HF := Lib.hid h
  have HG := Lib.hid hf
  have HK := Lib.hid hk
  have HR := Lib.hid h.rdr
  have hb0 := Below.refl w.heap.size w
  clear h hf hB hk hh hc
  go_enter Try.func15, Try.ntmps15
  go_wp2_with fail
  go_ret
  rw [HC.out, HN.out]
  exact ⟨rfl, HF.out.later HK.out, Wr.refl _⟩
set_option maxRecDepth 100000 in
set_option maxHeartbeats 4000000 in
theorem Move_noP (x p : Int) (w : World) (h : IsF w B fp L l m k) (hx : I64 x) (hp : I64 p) (hk : k < 1000) (hh : has L x = true) (hq : has L p = false)  :
    Calls Try.prog 15 #[.pointer (some ⟨fp, 0, none⟩), .int .i64 x, .int .i64 p] w fun e w' => e = .returned (.int .i64 (moveC L x p)) ∧ IsF w' B fp (moveN L x p) l m (k + 1) ∧ Wr [77] B w w' := by
  have hc : moveC L x p = 4 := by unfold moveC; rw [if_pos (.inr hq)]
  have HC := Lib.hid hc
  have HN : Hid (moveN L x p = L) := Lib.hid (by unfold moveN; rw [hc]; rfl)
  obtain ⟨tp, tg, mp, bl, hf, hB⟩ := h.fo
  have h1 := hf.c1
  have HL := hf.lookY hx hh
  have HLp := hf.lookN hp hq
  have HQ := Lib.hid hq
  have HH := Lib.hid hh
  have HF := Lib.hid h
  have HG := Lib.hid hf
  have HK := Lib.hid hk
  have HR := Lib.hid h.rdr
  have hb0 := Below.refl w.heap.size w
  clear h hf hB hk hh hc hq
  go_enter Try.func15, Try.ntmps15
  go_wp2_with fail
  go_ret
  rw [HC.out, HN.out]
  exact ⟨rfl, HF.out.later HK.out, Wr.refl _⟩
set_option maxRecDepth 100000 in
set_option maxHeartbeats 4000000 in
theorem Move_root (x p : Int) (w : World) (h : IsF w B fp L l m k) (hx : I64 x) (hp : I64 p) (hk : k < 1000) (hh : has L x = true) (hq : has L p = true) (hp1 : (gr L x).pa = -1) :
    Calls Try.prog 15 #[.pointer (some ⟨fp, 0, none⟩), .int .i64 x, .int .i64 p] w fun e w' => e = .returned (.int .i64 (moveC L x p)) ∧ IsF w' B fp (moveN L x p) l m (k + 1) ∧ Wr [77] B w w' := by
  have hc : moveC L x p = 15 := by unfold moveC; rw [if_neg (by rw [hh, hq]; decide), if_pos (by omega)]
  have HC := Lib.hid hc
  have HN : Hid (moveN L x p = L) := Lib.hid (by unfold moveN; rw [hc]; rfl)
  obtain ⟨tp, tg, mp, bl, hf, hB⟩ := h.fo
  have h1 := hf.c1
  have HL := hf.lookY hx hh
  have HLp := hf.lookY hp hq
  have HQ := Lib.hid hq
  have HH := Lib.hid hh
  have HF := Lib.hid h
  have HG := Lib.hid hf
  have HK := Lib.hid hk
  have HR := Lib.hid h.rdr
  have hb0 := Below.refl w.heap.size w
  have q0 := (hf.grp x hh).c0
  rw [hp1] at q0
  clear h hf hB hk hh hc hq hp1
  go_enter Try.func15, Try.ntmps15
  go_wp2_with fail
  go_ret
  rw [HC.out, HN.out]
  exact ⟨rfl, HF.out.later HK.out, Wr.refl _⟩
set_option maxRecDepth 100000 in
set_option maxHeartbeats 4000000 in
theorem Move_domain (x p : Int) (w : World) (h : IsF w B fp L l m k) (hx : I64 x) (hp : I64 p) (hk : k < 1000) (hh : has L x = true) (hq : has L p = true) (hp1 : 0 ≤ (gr L x).pa) (ht : ¬ topI L x = topI L p) :
    Calls Try.prog 15 #[.pointer (some ⟨fp, 0, none⟩), .int .i64 x, .int .i64 p] w fun e w' => e = .returned (.int .i64 (moveC L x p)) ∧ IsF w' B fp (moveN L x p) l m (k + 1) ∧ Wr [77] B w w' := by
  have hc : moveC L x p = 5 := by unfold moveC; rw [if_neg (by rw [hh, hq]; decide), if_neg (by omega), if_pos ht]
  have HC := Lib.hid hc
  have HN : Hid (moveN L x p = L) := Lib.hid (by unfold moveN; rw [hc]; rfl)
  obtain ⟨tp, tg, mp, bl, hf, hB⟩ := h.fo
  have h1 := hf.c1
  have HL := hf.lookY hx hh
  have HLp := hf.lookY hp hq
  have HQ := Lib.hid hq
  have HH := Lib.hid hh
  have HF := Lib.hid h
  have HG := Lib.hid hf
  have HK := Lib.hid hk
  have HR := Lib.hid h.rdr
  have hb0 := Below.refl w.heap.size w
  have HPA : Hid (∀ W : World, Below w.heap.size w W → W.cell? ⟨bl x, 0, none⟩ = some (.int .i64 (gr L x).pa)) := Lib.hid fun W hW => ((hf.below hW).grp x hh).c0
  have q0 := (hf.grp x hh).c0
  have hpa2 := beq_ff (show ¬ (gr L x).pa = -1 by omega)
  have ht2 := beq_ff ht
  clear h hf hB hk hh hc hq hp1
  generalize (gr L x).pa = pa at *
  go_enter Try.func15, Try.ntmps15
  go_wp2_with (go_at_call 43; refine (HR.out.root _ _ (by assumption) (by first | exact HH.out | exact HQ.out) (by assumption)).mono ?_; rintro e wi ⟨rfl, hbi⟩)
  go_ret
  rw [HC.out, HN.out]
  exact ⟨rfl, (HF.out.below hbi).later HK.out, Wr.of_below hbi⟩
set_option maxRecDepth 100000 in
set_option maxHeartbeats 4000000 in
theorem Move_loop (x p : Int) (w : World) (h : IsF w B fp L l m k) (hx : I64 x) (hp : I64 p) (hk : k < 1000) (hh : has L x = true) (hq : has L p = true) (hp1 : 0 ≤ (gr L x).pa) (ht : topI L x = topI L p) (hbe : belowB L p x = true) :
    Calls Try.prog 15 #[.pointer (some ⟨fp, 0, none⟩), .int .i64 x, .int .i64 p] w fun e w' => e = .returned (.int .i64 (moveC L x p)) ∧ IsF w' B fp (moveN L x p) l m (k + 1) ∧ Wr [77] B w w' := by
  have hc : moveC L x p = 12 := by unfold moveC; rw [if_neg (by rw [hh, hq]; decide), if_neg (by omega), if_neg (fun e => e ht), if_pos hbe]
  have HC := Lib.hid hc
  have HN : Hid (moveN L x p = L) := Lib.hid (by unfold moveN; rw [hc]; rfl)
  obtain ⟨tp, tg, mp, bl, hf, hB⟩ := h.fo
  have h1 := hf.c1
  have HL := hf.lookY hx hh
  have HLp := hf.lookY hp hq
  have HQ := Lib.hid hq
  have HH := Lib.hid hh
  have HF := Lib.hid h
  have HG := Lib.hid hf
  have HK := Lib.hid hk
  have HR := Lib.hid h.rdr
  have hb0 := Below.refl w.heap.size w
  have HPA : Hid (∀ W : World, Below w.heap.size w W → W.cell? ⟨bl x, 0, none⟩ = some (.int .i64 (gr L x).pa)) := Lib.hid fun W hW => ((hf.below hW).grp x hh).c0
  have q0 := (hf.grp x hh).c0
  have hpa2 := beq_ff (show ¬ (gr L x).pa = -1 by omega)
  have HBE := Lib.hid hbe
  clear h hf hB hk hh hc hq hp1 hbe
  generalize (gr L x).pa = pa at *
  go_enter Try.func15, Try.ntmps15
  go_wp2_with (first | (go_at_call 43; refine (HR.out.root _ _ (by assumption) (by first | exact HH.out | exact HQ.out) (by assumption)).mono ?_; rintro e wi ⟨rfl, hbi⟩) | (go_at_call 17; refine (HR.out.below _ _ _ (by assumption) (by assumption)).mono ?_; rw [HBE.out]; rintro e wi ⟨rfl, hbi⟩))
  go_ret
  rw [HC.out, HN.out]
  exact ⟨rfl, (HF.out.below hbi).later HK.out, Wr.of_below hbi⟩
set_option maxRecDepth 100000 in
set_option maxHeartbeats 4000000 in
theorem Move_deep (x p : Int) (w : World) (h : IsF w B fp L l m k) (hx : I64 x) (hp : I64 p) (hk : k < 1000) (hh : has L x = true) (hq : has L p = true) (hp1 : 0 ≤ (gr L x).pa) (ht : topI L x = topI L p) (hbe : belowB L p x = false) (hde : deepB L x p = true) :
    Calls Try.prog 15 #[.pointer (some ⟨fp, 0, none⟩), .int .i64 x, .int .i64 p] w fun e w' => e = .returned (.int .i64 (moveC L x p)) ∧ IsF w' B fp (moveN L x p) l m (k + 1) ∧ Wr [77] B w w' := by
  have hc : moveC L x p = 7 := by unfold moveC; rw [if_neg (by rw [hh, hq]; decide), if_neg (by omega), if_neg (fun e => e ht), if_neg (by rw [hbe]; decide), if_pos hde]
  have HC := Lib.hid hc
  have HN : Hid (moveN L x p = L) := Lib.hid (by unfold moveN; rw [hc]; rfl)
  obtain ⟨tp, tg, mp, bl, hf, hB⟩ := h.fo
  have h1 := hf.c1
  have HL := hf.lookY hx hh
  have HLp := hf.lookY hp hq
  have HQ := Lib.hid hq
  have HH := Lib.hid hh
  have HF := Lib.hid h
  have HG := Lib.hid hf
  have HK := Lib.hid hk
  have HR := Lib.hid h.rdr
  have hb0 := Below.refl w.heap.size w
  have HPA : Hid (∀ W : World, Below w.heap.size w W → W.cell? ⟨bl x, 0, none⟩ = some (.int .i64 (gr L x).pa)) := Lib.hid fun W hW => ((hf.below hW).grp x hh).c0
  have q0 := (hf.grp x hh).c0
  have hpa2 := beq_ff (show ¬ (gr L x).pa = -1 by omega)
  have hd8 := h.ok.dep8 p
  have HBE := Lib.hid hbe
  have HDE := Lib.hid hde
  clear h hf hB hk hh hc hq hp1 hbe hde
  generalize (gr L x).pa = pa at *
  go_enter Try.func15, Try.ntmps15
  go_wp2_with (first | (go_at_call 43; refine (HR.out.root _ _ (by assumption) (by first | exact HH.out | exact HQ.out) (by assumption)).mono ?_; rintro e wi ⟨rfl, hbi⟩) | (go_at_call 17; refine (HR.out.below _ _ _ (by assumption) (by assumption)).mono ?_; rw [HBE.out]; rintro e wi ⟨rfl, hbi⟩) | (go_at_call 41; refine (HR.out.depth _ _ (by assumption) (by assumption)).mono ?_; rintro e wi ⟨rfl, hbi⟩) | (go_at_call 44; refine (HR.out.levels _ _ (by assumption) (by assumption)).mono ?_; rintro e wi ⟨⟨v, rfl, hv0, hv9, HV⟩, hbi⟩; have hv := (HV p).trans HDE.out; clear HV; replace hv := of_decide_eq_true hv; have HGi := HG.out.below hbi; have q0 := HPA.out wi hbi; clear HGi))
  go_ret
  rw [HC.out, HN.out]
  exact ⟨rfl, (HF.out.below hbi).later HK.out, Wr.of_below hbi⟩
set_option maxRecDepth 100000 in
set_option maxHeartbeats 4000000 in
theorem Move_full (x p : Int) (w : World) (h : IsF w B fp L l m k) (hx : I64 x) (hp : I64 p) (hk : k < 1000) (hh : has L x = true) (hq : has L p = true) (hp1 : 0 ≤ (gr L x).pa) (ht : topI L x = topI L p) (hbe : belowB L p x = false) (hde : deepB L x p = false) (hn : ¬ (gr L x).pa = p) (h32 : fanI L p = 32) :
    Calls Try.prog 15 #[.pointer (some ⟨fp, 0, none⟩), .int .i64 x, .int .i64 p] w fun e w' => e = .returned (.int .i64 (moveC L x p)) ∧ IsF w' B fp (moveN L x p) l m (k + 1) ∧ Wr [77] B w w' := by
  have hc : moveC L x p = 6 := by unfold moveC; rw [if_neg (by rw [hh, hq]; decide), if_neg (by omega), if_neg (fun e => e ht), if_neg (by rw [hbe]; decide), if_neg (by rw [hde]; decide), if_pos ⟨hn, h32⟩]
  have HC := Lib.hid hc
  have HN : Hid (moveN L x p = L) := Lib.hid (by unfold moveN; rw [hc]; rfl)
  obtain ⟨tp, tg, mp, bl, hf, hB⟩ := h.fo
  have h1 := hf.c1
  have HL := hf.lookY hx hh
  have HLp := hf.lookY hp hq
  have HQ := Lib.hid hq
  have HH := Lib.hid hh
  have HF := Lib.hid h
  have HG := Lib.hid hf
  have HK := Lib.hid hk
  have HR := Lib.hid h.rdr
  have hb0 := Below.refl w.heap.size w
  have HPA : Hid (∀ W : World, Below w.heap.size w W → W.cell? ⟨bl x, 0, none⟩ = some (.int .i64 (gr L x).pa)) := Lib.hid fun W hW => ((hf.below hW).grp x hh).c0
  have q0 := (hf.grp x hh).c0
  have hpa2 := beq_ff (show ¬ (gr L x).pa = -1 by omega)
  have hd8 := h.ok.dep8 p
  have HBE := Lib.hid hbe
  have HDE := Lib.hid hde
  have hn2 := beq_ff hn
  have h322 : (fanI L p == 32) = true := beq_tt h32
  clear h hf hB hk hh hc hq hp1 hbe hde h32
  generalize (gr L x).pa = pa at *
  go_enter Try.func15, Try.ntmps15
  go_wp2_with (first | (go_at_call 43; refine (HR.out.root _ _ (by assumption) (by first | exact HH.out | exact HQ.out) (by assumption)).mono ?_; rintro e wi ⟨rfl, hbi⟩) | (go_at_call 17; refine (HR.out.below _ _ _ (by assumption) (by assumption)).mono ?_; rw [HBE.out]; rintro e wi ⟨rfl, hbi⟩) | (go_at_call 41; refine (HR.out.depth _ _ (by assumption) (by assumption)).mono ?_; rintro e wi ⟨rfl, hbi⟩) | (go_at_call 44; refine (HR.out.levels _ _ (by assumption) (by assumption)).mono ?_; rintro e wi ⟨⟨v, rfl, hv0, hv9, HV⟩, hbi⟩; have hv := (HV p).trans HDE.out; clear HV; replace hv := of_decide_eq_false hv; have HGi := HG.out.below hbi; have q0 := HPA.out wi hbi; clear HGi) | (go_at_call 42; refine (HR.out.fan _ _ (by assumption) HQ.out (by assumption)).mono ?_; rintro e wi ⟨rfl, hbi⟩; have HGi := HG.out.below hbi; have f0 := (HGi.grp x HH.out).fz 0; have q0 := HPA.out wi hbi; clear HGi))
  go_ret
  rw [HC.out, HN.out]
  exact ⟨rfl, (HF.out.below hbi).later HK.out, Wr.of_below hbi⟩
set_option maxRecDepth 100000 in
set_option maxHeartbeats 4000000 in
theorem Move_go (x p : Int) (w : World) (h : IsF w B fp L l m k) (hx : I64 x) (hp : I64 p) (hk : k < 1000) (hh : has L x = true) (hq : has L p = true) (hp1 : 0 ≤ (gr L x).pa) (ht : topI L x = topI L p) (hbe : belowB L p x = false) (hde : deepB L x p = false) (hn : ¬ (gr L x).pa = p) (h32 : ¬ fanI L p = 32) :
    Calls Try.prog 15 #[.pointer (some ⟨fp, 0, none⟩), .int .i64 x, .int .i64 p] w fun e w' => e = .returned (.int .i64 (moveC L x p)) ∧ IsF w' B fp (moveN L x p) l m (k + 1) ∧ Wr [77] B w w' := by
  have hc : moveC L x p = 0 := by unfold moveC; rw [if_neg (by rw [hh, hq]; decide), if_neg (by omega), if_neg (fun e => e ht), if_neg (by rw [hbe]; decide), if_neg (by rw [hde]; decide), if_neg (fun e => h32 e.2)]
  have HC := Lib.hid hc
  have HN : Hid (moveN L x p = moveG L x p) := Lib.hid (by unfold moveN; rw [hc]; rfl)
  obtain ⟨tp, tg, mp, bl, hf, hB⟩ := h.fo
  have h1 := hf.c1
  have HL := hf.lookY hx hh
  have HLp := hf.lookY hp hq
  have HQ := Lib.hid hq
  have HH := Lib.hid hh
  have HF := Lib.hid h
  have HG := Lib.hid hf
  have HK := Lib.hid hk
  have HR := Lib.hid h.rdr
  have hb0 := Below.refl w.heap.size w
  have HPA : Hid (∀ W : World, Below w.heap.size w W → W.cell? ⟨bl x, 0, none⟩ = some (.int .i64 (gr L x).pa)) := Lib.hid fun W hW => ((hf.below hW).grp x hh).c0
  have q0 := (hf.grp x hh).c0
  have hpa2 := beq_ff (show ¬ (gr L x).pa = -1 by omega)
  have hd8 := h.ok.dep8 p
  have HOK : Ok (moveG L x p) m (k + 1) := by have := h.ok.move (x := x) (p := p) hk; rwa [HN.out] at this
  have HA : Hid (∀ W : World, Below w.heap.size w W → IsF (W.setCell ⟨bl x, 0, none⟩ (.int .i64 p)) B fp (moveG L x p) l m (k + 1) ∧ Wr [77] B w (W.setCell ⟨bl x, 0, none⟩ (.int .i64 p))) := Lib.hid fun W hW => h.act hf hB hW hh rfl (((hf.below hW).grp x hh).set0 p) HOK
  have HBE := Lib.hid hbe
  have HDE := Lib.hid hde
  have hn2 := beq_ff hn
  have h322 := beq_ff h32
  clear h hf hB hk hh hc hq hp1 hbe hde h32 HOK
  generalize (gr L x).pa = pa at *
  go_enter Try.func15, Try.ntmps15
  go_wp2_with (first | (go_at_call 43; refine (HR.out.root _ _ (by assumption) (by first | exact HH.out | exact HQ.out) (by assumption)).mono ?_; rintro e wi ⟨rfl, hbi⟩) | (go_at_call 17; refine (HR.out.below _ _ _ (by assumption) (by assumption)).mono ?_; rw [HBE.out]; rintro e wi ⟨rfl, hbi⟩) | (go_at_call 41; refine (HR.out.depth _ _ (by assumption) (by assumption)).mono ?_; rintro e wi ⟨rfl, hbi⟩) | (go_at_call 44; refine (HR.out.levels _ _ (by assumption) (by assumption)).mono ?_; rintro e wi ⟨⟨v, rfl, hv0, hv9, HV⟩, hbi⟩; have hv := (HV p).trans HDE.out; clear HV; replace hv := of_decide_eq_false hv; have HGi := HG.out.below hbi; have q0 := HPA.out wi hbi; clear HGi) | (go_at_call 42; refine (HR.out.fan _ _ (by assumption) HQ.out (by assumption)).mono ?_; rintro e wi ⟨rfl, hbi⟩; have HGi := HG.out.below hbi; have f0 := (HGi.grp x HH.out).fz 0; have q0 := HPA.out wi hbi; clear HGi))
  go_ret
  rw [HC.out, HN.out]
  exact ⟨rfl, HA.out _ (by assumption)⟩
set_option maxRecDepth 100000 in
set_option maxHeartbeats 4000000 in
theorem Move_stay (x p : Int) (w : World) (h : IsF w B fp L l m k) (hx : I64 x) (hp : I64 p) (hk : k < 1000) (hh : has L x = true) (hq : has L p = true) (hp1 : 0 ≤ (gr L x).pa) (ht : topI L x = topI L p) (hbe : belowB L p x = false) (hde : deepB L x p = false) (hn : (gr L x).pa = p) :
    Calls Try.prog 15 #[.pointer (some ⟨fp, 0, none⟩), .int .i64 x, .int .i64 p] w fun e w' => e = .returned (.int .i64 (moveC L x p)) ∧ IsF w' B fp (moveN L x p) l m (k + 1) ∧ Wr [77] B w w' := by
  have hc : moveC L x p = 0 := by unfold moveC; rw [if_neg (by rw [hh, hq]; decide), if_neg (by omega), if_neg (fun e => e ht), if_neg (by rw [hbe]; decide), if_neg (by rw [hde]; decide), if_neg (fun e => e.1 hn)]
  have HC := Lib.hid hc
  have HN : Hid (moveN L x p = moveG L x p) := Lib.hid (by unfold moveN; rw [hc]; rfl)
  obtain ⟨tp, tg, mp, bl, hf, hB⟩ := h.fo
  have h1 := hf.c1
  have HL := hf.lookY hx hh
  have HLp := hf.lookY hp hq
  have HQ := Lib.hid hq
  have HH := Lib.hid hh
  have HF := Lib.hid h
  have HG := Lib.hid hf
  have HK := Lib.hid hk
  have HR := Lib.hid h.rdr
  have hb0 := Below.refl w.heap.size w
  have HPA : Hid (∀ W : World, Below w.heap.size w W → W.cell? ⟨bl x, 0, none⟩ = some (.int .i64 (gr L x).pa)) := Lib.hid fun W hW => ((hf.below hW).grp x hh).c0
  have q0 := (hf.grp x hh).c0
  have hpa2 := beq_ff (show ¬ (gr L x).pa = -1 by omega)
  have hd8 := h.ok.dep8 p
  have HOK : Ok (moveG L x p) m (k + 1) := by have := h.ok.move (x := x) (p := p) hk; rwa [HN.out] at this
  have HA : Hid (∀ W : World, Below w.heap.size w W → IsF (W.setCell ⟨bl x, 0, none⟩ (.int .i64 p)) B fp (moveG L x p) l m (k + 1) ∧ Wr [77] B w (W.setCell ⟨bl x, 0, none⟩ (.int .i64 p))) := Lib.hid fun W hW => h.act hf hB hW hh rfl (((hf.below hW).grp x hh).set0 p) HOK
  have HBE := Lib.hid hbe
  have HDE := Lib.hid hde
  have HN2 := Lib.hid hn
  rw [hn] at q0 hpa2
  have hpp : (p == p) = true := by simp
  clear h hf hB hk hh hc hq hp1 hbe hde HOK hn
  go_enter Try.func15, Try.ntmps15
  go_wp2_with (first | (go_at_call 43; refine (HR.out.root _ _ (by assumption) (by first | exact HH.out | exact HQ.out) (by assumption)).mono ?_; rintro e wi ⟨rfl, hbi⟩) | (go_at_call 17; refine (HR.out.below _ _ _ (by assumption) (by assumption)).mono ?_; rw [HBE.out]; rintro e wi ⟨rfl, hbi⟩) | (go_at_call 41; refine (HR.out.depth _ _ (by assumption) (by assumption)).mono ?_; rintro e wi ⟨rfl, hbi⟩) | (go_at_call 44; refine (HR.out.levels _ _ (by assumption) (by assumption)).mono ?_; rintro e wi ⟨⟨v, rfl, hv0, hv9, HV⟩, hbi⟩; have hv := (HV p).trans HDE.out; clear HV; replace hv := of_decide_eq_false hv; have HGi := HG.out.below hbi; have f0 := (HGi.grp x HH.out).fz 0; have q0 := HPA.out wi hbi; rw [HN2.out] at q0; clear HGi) | (go_at_call 42; refine (HR.out.fan _ _ (by assumption) HQ.out (by assumption)).mono ?_; rintro e wi ⟨rfl, hbi⟩; have HGi := HG.out.below hbi; have f0 := (HGi.grp x HH.out).fz 0; have q0 := HPA.out wi hbi; clear HGi))
  go_ret
  rw [HC.out, HN.out]
  exact ⟨rfl, HA.out _ (by assumption)⟩
theorem Move_any (x p : Int) (w : World) (h : IsF w B fp L l m k) (hx : I64 x) (hp : I64 p) (hk : k < 1000) :
    Calls Try.prog 15 #[.pointer (some ⟨fp, 0, none⟩), .int .i64 x, .int .i64 p] w fun e w' => e = .returned (.int .i64 (moveC L x p)) ∧ IsF w' B fp (moveN L x p) l m (k + 1) ∧ Wr [77] B w w' := by
  cases hh : has L x with
  | false => exact Move_noX fp B L l m k x p w h hx hk hh
  | true =>
  cases hq : has L p with
  | false => exact Move_noP fp B L l m k x p w h hx hp hk hh hq
  | true =>
  rcases h.ok.pa hh with hp1 | hp1
  · exact Move_root fp B L l m k x p w h hx hp hk hh hq hp1
  have hp2 : 0 ≤ (gr L x).pa := by have := h.ok.id hp1; omega
  by_cases ht : topI L x = topI L p
  case neg => exact Move_domain fp B L l m k x p w h hx hp hk hh hq hp2 ht
  cases hbe : belowB L p x with
  | true => exact Move_loop fp B L l m k x p w h hx hp hk hh hq hp2 ht hbe
  | false =>
  cases hde : deepB L x p with
  | true => exact Move_deep fp B L l m k x p w h hx hp hk hh hq hp2 ht hbe hde
  | false =>
  by_cases hn : (gr L x).pa = p
  · exact Move_stay fp B L l m k x p w h hx hp hk hh hq hp2 ht hbe hde hn
  by_cases h32 : fanI L p = 32
  · exact Move_full fp B L l m k x p w h hx hp hk hh hq hp2 ht hbe hde hn h32
  · exact Move_go fp B L l m k x p w h hx hp hk hh hq hp2 ht hbe hde hn h32
end
end Go.Proofs.Ythndfhkkaichiaa
