/-
  A forest of 64 that a law makes: what its acts leave it. Condition: it is one.
-/
import Derived.Test.YthndfhkkaichiaaYc
namespace Go.Proofs.Ythndfhkkaichiaa
open Go.RowKit Go.Maps

/-- a root alone. -/
def oneL : List Gr := [⟨1, -1, 1, 0, 0⟩]
/-- a forest of 64 at fp. -/
structure Sw (W : World) (fp : Nat) (w : World) (L : List Gr) (m k : Int) : Prop where
  F : ∃ l, l.length = 64 ∧ IsF w W.heap.size fp L l m k
  bel : Below W.heap.size W w
section
variable {W w w' : World} {fp : Nat} {L : List Gr} {m k : Int}
theorem Sw.ok (h : Sw W fp w L m k) : Ok L m k := by obtain ⟨l, _, hF⟩ := h.F; exact hF.ok
theorem Sw.le (h : Sw W fp w L m k) : W.heap.size ≤ w.heap.size := h.bel.size
theorem Sw.below (h : Sw W fp w L m k) (hb : Below w.heap.size w w') : Sw W fp w' L m k := by
  obtain ⟨l, hl, hF⟩ := h.F
  exact ⟨⟨l, hl, hF.below hb⟩, h.bel.trans (hb.mono h.le)⟩
theorem Sw.wr {ts : List Nat} {L' : List Gr} {m' k' : Int} (h : Sw W fp w L m k) (hF : ∃ l, l.length = 64 ∧ IsF w' W.heap.size fp L' l m' k') (hw : Wr ts W.heap.size w w') : Sw W fp w' L' m' k' := ⟨hF, h.bel.trans (hw.below h.le)⟩
theorem Sw.Root (h : Sw W fp w L m k) (hk : k < 1000) {c : Int} (hc : rootC L 64 = c) :
    Calls Try.prog 13 #[.pointer (some ⟨fp, 0, none⟩)] w fun e w' => e = .returned (.tuple #[.int .i64 (nextI c m), .int .i64 c]) ∧ Sw W fp w' (if c = 0 then addG L m (-1) 1 else L) (lastI c m) (k + 1) := by
  obtain ⟨l, hl, hF⟩ := h.F
  refine (Root_any fp W.heap.size L l m k w hF hk h.le).mono ?_
  unfold rootN
  rw [hl, hc]
  rintro e w1 ⟨rfl, h1, h2⟩
  exact ⟨rfl, h.wr h1 h2⟩
theorem Sw.Add (h : Sw W fp w L m k) {p wt : Int} (hp : I64 p) (hk : k < 1000) {c : Int} (hc : addC L 64 p wt = c) :
    Calls Try.prog 14 #[.pointer (some ⟨fp, 0, none⟩), .int .i64 p, .int .i64 wt] w fun e w' => e = .returned (.tuple #[.int .i64 (nextI c m), .int .i64 c]) ∧ Sw W fp w' (if c = 0 then addG L m p wt else L) (lastI c m) (k + 1) := by
  obtain ⟨l, hl, hF⟩ := h.F
  refine (AddF_any fp W.heap.size L l m k p wt w hF hp hk h.le).mono ?_
  unfold addN
  rw [hl, hc]
  rintro e w1 ⟨rfl, h1, h2⟩
  exact ⟨rfl, h.wr h1 h2⟩
theorem Sw.Join (h : Sw W fp w L m k) {x : Int} (hx : I64 x) (hk : k < 1000) {c : Int} (hc : countC L x 1 0 = c) :
    Calls Try.prog 18 #[.pointer (some ⟨fp, 0, none⟩), .int .i64 x] w fun e w' => e = .returned (.int .i64 c) ∧ Sw W fp w' (if c = 0 then countG L x 1 0 else L) m (k + 1) := by
  obtain ⟨l, hl, hF⟩ := h.F
  refine (Join_any fp W.heap.size L l m k x w hF hx hk).mono ?_
  unfold countN
  rw [hc]
  rintro e w1 ⟨rfl, h1, h2⟩
  exact ⟨rfl, h.wr ⟨l, hl, h1⟩ h2⟩
theorem Sw.root (h : Sw W fp w [] 0 0) :
    Calls Try.prog 13 #[.pointer (some ⟨fp, 0, none⟩)] w fun e w' => e = .returned (.tuple #[.int .i64 1, .int .i64 0]) ∧ Sw W fp w' oneL 1 1 :=
  h.Root (by omega) (c := 0) rfl
theorem Sw.add (h : Sw W fp w L m k) {p wt : Int} (hp : I64 p) (hk : k < 1000) (hc : addC L 64 p wt = 0) {L' : List Gr} (hL : addG L m p wt = L') :
    Calls Try.prog 14 #[.pointer (some ⟨fp, 0, none⟩), .int .i64 p, .int .i64 wt] w fun e w' => e = .returned (.tuple #[.int .i64 (m + 1), .int .i64 0]) ∧ Sw W fp w' L' (m + 1) (k + 1) := by
  subst hL
  exact h.Add hp hk hc
theorem Sw.addNo (h : Sw W fp w L m k) {p wt c : Int} (hp : I64 p) (hk : k < 1000) (hc : addC L 64 p wt = c) (h0 : ¬ c = 0) :
    Calls Try.prog 14 #[.pointer (some ⟨fp, 0, none⟩), .int .i64 p, .int .i64 wt] w fun e w' => e = .returned (.tuple #[.int .i64 0, .int .i64 c]) ∧ Sw W fp w' L m (k + 1) := by
  have := h.Add hp hk hc
  unfold nextI lastI at this
  rw [if_neg h0, if_neg h0, if_neg h0] at this
  exact this
theorem Sw.join (h : Sw W fp w L m k) {x : Int} (hx : I64 x) (hk : k < 1000) (hc : countC L x 1 0 = 0) {L' : List Gr} (hL : countG L x 1 0 = L') :
    Calls Try.prog 18 #[.pointer (some ⟨fp, 0, none⟩), .int .i64 x] w fun e w' => e = .returned (.int .i64 0) ∧ Sw W fp w' L' m (k + 1) := by
  subst hL
  exact h.Join hx hk hc
theorem Sw.joinNo (h : Sw W fp w L m k) {x c : Int} (hx : I64 x) (hk : k < 1000) (hc : countC L x 1 0 = c) (h0 : ¬ c = 0) :
    Calls Try.prog 18 #[.pointer (some ⟨fp, 0, none⟩), .int .i64 x] w fun e w' => e = .returned (.int .i64 c) ∧ Sw W fp w' L m (k + 1) := by
  have := h.Join hx hk hc
  rw [if_neg h0] at this
  exact this
theorem Sw.kids (h : Sw W fp w L m k) {x : Int} (hx : ¬ x = -1) :
    Calls Try.prog 19 #[.pointer (some ⟨fp, 0, none⟩), .int .i64 x] w fun e w' => (∃ a c, e = .returned (.slice a (Proofs.Ythndfhkkaichiaa.kids L x).length c)) ∧ Sw W fp w' L m k := by
  obtain ⟨l, hl, hF⟩ := h.F
  refine (Children_any fp W.heap.size L l m k x w hF hx).mono ?_
  rintro e w1 ⟨⟨a, c, rfl, _⟩, hb⟩
  exact ⟨⟨a, c, rfl⟩, h.below hb⟩
theorem Sw.made (w : World) : Calls Try.prog 9 #[.int .i64 64] w fun e w' => ∃ fp, e = .returned (.tuple #[.pointer (some ⟨fp, 0, none⟩), .int .i64 0]) ∧ Sw w fp w' [] 0 0 := by
  refine (show Calls Try.prog 9 #[.int .i64 64] w _ from NewF_yes 64 w (by omega) (by omega)).mono ?_
  rintro e w2 ⟨⟨fp, l0, rfl, hl0, hF0⟩, hb⟩
  exact ⟨fp, rfl, ⟨l0, hl0, hF0⟩, hb⟩
theorem Sw.base {W' : World} (h : Sw W' fp w L m k) (hb : Below W.heap.size W W') : Sw W fp w L m k := by
  obtain ⟨l, hl, hF⟩ := h.F
  exact ⟨⟨l, hl, hF.base hb.size⟩, hb.trans (h.bel.mono hb.size)⟩
end
end Go.Proofs.Ythndfhkkaichiaa
