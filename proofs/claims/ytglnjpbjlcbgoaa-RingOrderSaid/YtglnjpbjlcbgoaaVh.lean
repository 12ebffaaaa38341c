/-
  The program's calls, told by lists: First, Last, Next, Prev, List, put, Drop, New. Condition: the ring set is one.
-/
import Derived.Test.YtglnjpbjlcbgoaaVf
import Derived.Test.YtglnjpbjlcbgoaaVg
namespace Go.Proofs.Ytglnjpbjlcbgoaa
open Go.RowKit

/-- at p lies a ring set with these lists. -/
structure Ring (w : World) (p g c N : Nat) (ls : List (List Nat)) : Prop where
  ok : OkL N ls
  mem : ∃ S, IsR w p g c N ls.length S ∧ Lk N ls S
section
variable {w w' : World} {p g c N : Nat} {ls : List (List Nat)}
theorem Ring.same (h : Ring w p g c N ls) (h1 : w'.heap[p]? = w.heap[p]?) (h2 : w'.heap[g]? = w.heap[g]?) : Ring w' p g c N ls := by
  obtain ⟨S, h3, h4⟩ := h.mem
  exact ⟨h.ok, S, h3.same h1 h2, h4⟩
theorem Ring.ltp (h : Ring w p g c N ls) : p < w.heap.size := by obtain ⟨S, h3, _⟩ := h.mem; exact h3.ltp
theorem Ring.ltg (h : Ring w p g c N ls) : g < w.heap.size := by obtain ⟨S, h3, _⟩ := h.mem; exact h3.ltg
theorem Ring.sm (h : Ring w p g c N ls) (hs : Same w w') : Ring w' p g c N ls := h.same (by rw [hs.heap]) (by rw [hs.heap])
theorem Ring.below {B : Nat} (h : Ring w p g c N ls) (hb : Below B w w') (hp : p < B) (hg : g < B) : Ring w' p g c N ls := h.same (hb.block p hp) (hb.block g hg)
theorem Ring.belowS (h : Ring w p g c N ls) (hb : Below w.heap.size w w') : Ring w' p g c N ls := h.below hb h.ltp h.ltg
theorem Ring.alloc (h : Ring w p g c N ls) (o : Obj) : Ring (w.alloc o) p g c N ls := h.same (heap_alloc_old w o _ h.ltp) (heap_alloc_old w o _ h.ltg)
theorem Ring.turn {b : Nat} (h : Ring w p g c N ls) (ht : Turn b w w') (hp : p ≠ b) (hg : g ≠ b) : Ring w' p g c N ls := h.same (ht.block p hp) (ht.block g hg)
theorem Ring.row {v : Value} {B : Nat} {ls' : List (List Nat)} (h : Ring w p g c N ls) (hd : Doc w B v ls') (ho : Only g w w') : Doc w' B v ls' := by
  obtain ⟨S, h3, _⟩ := h.mem
  exact hd.onlyR ho h3
theorem nodeI_wk (ok : OkL N ls) (k i : Nat) : nodeI N ((wk N ls k (i + 1) : Nat) : Int) = if i < (row ls k).length then (((row ls k).getD i 0 : Nat) : Int) else -1 := by
  by_cases h : i < (row ls k).length
  · rw [if_pos h]
    have h1 := wk_at' (N := N) h
    have h2 := ok.lt _ _ _ h1
    have h3 : (row ls k).getD i 0 = wk N ls k (i + 1) := At.eq (At.of_lt h) h1
    rw [h3]
    exact if_neg (by omega)
  · rw [if_neg h, wk_end (by omega)]
    exact if_pos (by omega)
theorem nodeI_none (N : Nat) : nodeI N (-1) = -1 := if_neg (by omega)
theorem Ring.out (h : OkL N ls) {n : Int} (hn : inN N n = false) : hasB ls n = false := no_hasB fun k i x hx => by
  have := h.lt _ _ _ hx
  rintro rfl
  have : inN N (x : Int) = true := by rw [inN_iff]; omega
  rw [this] at hn; cases hn
theorem First_any (h : Ring w p g c N ls) (k : Int) : Calls Try.prog 14 #[.pointer (some ⟨p, 0, none⟩), .int .i64 k] w fun e w' => e = .returned (.int .i64 (hdI (rowI ls k))) ∧ Same w w' := by
  obtain ⟨S, hr, lk⟩ := h.mem
  by_cases hk : 0 ≤ k ∧ k < ls.length
  · obtain ⟨i, rfl⟩ : ∃ i : Nat, k = i := ⟨k.toNat, by omega⟩
    have h1 := lk.nx i 0 (by omega) (Nat.zero_le _)
    have h2 := First_S hr i _ _ rfl h1 (by omega) h.ok.n64 h.ok.m64
    rw [nodeI_wk h.ok] at h2
    have e : rowI ls (i : Int) = Proofs.Ytglnjpbjlcbgoaa.row ls i := by
      unfold rowI; rw [if_pos (by omega), Int.toNat_natCast]
    rw [e]; exact h2
  · have e : rowI ls k = [] := by
      unfold rowI
      split
      · simp [Proofs.Ytglnjpbjlcbgoaa.row, List.getD, List.getElem?_eq_none (show ls.length ≤ k.toNat by omega)]
      · rfl
    rw [e]
    exact First_no hr k hk h.ok.m64
theorem Last_any (h : Ring w p g c N ls) (k : Int) : Calls Try.prog 18 #[.pointer (some ⟨p, 0, none⟩), .int .i64 k] w fun e w' => e = .returned (.int .i64 (laI (rowI ls k))) ∧ Same w w' := by
  obtain ⟨S, hr, lk⟩ := h.mem
  by_cases hk : 0 ≤ k ∧ k < ls.length
  · obtain ⟨i, rfl⟩ : ∃ i : Nat, k = i := ⟨k.toNat, by omega⟩
    have h1 := lk.pv i (Proofs.Ytglnjpbjlcbgoaa.row ls i).length (by omega) (Nat.le_refl _)
    rw [wk_end (Nat.le_refl _)] at h1
    have h2 := Last_S hr i _ _ rfl h1 (by omega) h.ok.n64 h.ok.m64
    have e : laI (rowI ls (i : Int)) = nodeI N ((wk N ls i (Proofs.Ytglnjpbjlcbgoaa.row ls i).length : Nat) : Int) := by
      rw [show rowI ls (i : Int) = Proofs.Ytglnjpbjlcbgoaa.row ls i by unfold rowI; rw [if_pos (by omega), Int.toNat_natCast]]
      unfold laI
      cases hl : (Proofs.Ytglnjpbjlcbgoaa.row ls i).length with
      | zero => rw [if_neg (by omega), wk_zero]; exact (if_pos (by omega)).symm
      | succ l => rw [if_pos (by omega), nodeI_wk h.ok, if_pos (by omega), show l + 1 - 1 = l by omega]
    rw [e]; exact h2
  · have e : rowI ls k = [] := by
      unfold rowI
      split
      · simp [Proofs.Ytglnjpbjlcbgoaa.row, List.getD, List.getElem?_eq_none (show ls.length ≤ k.toNat by omega)]
      · rfl
    rw [e]
    exact Last_no hr k hk h.ok.m64
theorem Next_any (h : Ring w p g c N ls) (n : Int) : Calls Try.prog 15 #[.pointer (some ⟨p, 0, none⟩), .int .i64 n] w fun e w' => e = .returned (.int .i64 (nextI ls n)) ∧ Same w w' := by
  obtain ⟨S, hr, lk⟩ := h.mem
  by_cases hn : 0 ≤ n ∧ n < N
  · obtain ⟨x, rfl⟩ : ∃ x : Nat, n = x := ⟨n.toNat, by omega⟩
    have h2 := Next_S hr x (by omega)
    cases hb : hasB ls x with
    | true =>
      obtain ⟨y, e, hy⟩ := hasB_at hb
      obtain rfl : x = y := by omega
      have h1 := lk.nx _ (fi ls x + 1) hy.lists hy.len
      rw [wk_at hy] at h1
      rw [h1, nodeI_wk h.ok] at h2
      have e : nextI ls x = if fi ls x + 1 < (Proofs.Ytglnjpbjlcbgoaa.row ls (fk ls x)).length then (((Proofs.Ytglnjpbjlcbgoaa.row ls (fk ls x)).getD (fi ls x + 1) 0 : Nat) : Int) else -1 := by simp [nextI, hb]
      rw [e]; exact h2
    | false =>
      have h1 := (lk.free x (by omega) fun k i hx => hasB_no hb k i x hx rfl).1
      rw [h1, nodeI_none] at h2
      have e : nextI ls x = -1 := by simp [nextI, hb]
      rw [e]; exact h2
  · have hb := Ring.out h.ok (n := n) (by simp [inN]; omega)
    have e : nextI ls n = -1 := by simp [nextI, hb]
    rw [e]
    exact Next_no hr n hn
theorem Prev_any (h : Ring w p g c N ls) (n : Int) : Calls Try.prog 17 #[.pointer (some ⟨p, 0, none⟩), .int .i64 n] w fun e w' => e = .returned (.int .i64 (prevI ls n)) ∧ Same w w' := by
  obtain ⟨S, hr, lk⟩ := h.mem
  by_cases hn : 0 ≤ n ∧ n < N
  · obtain ⟨x, rfl⟩ : ∃ x : Nat, n = x := ⟨n.toNat, by omega⟩
    have h2 := Prev_S hr x (by omega)
    cases hb : hasB ls x with
    | true =>
      obtain ⟨y, e, hy⟩ := hasB_at hb
      obtain rfl : x = y := by omega
      have h1 := lk.pv _ (fi ls x) hy.lists (Nat.le_of_lt hy.len)
      rw [wk_at hy] at h1
      rw [h1] at h2
      have e : prevI ls x = nodeI N ((wk N ls (fk ls x) (fi ls x) : Nat) : Int) := by
        have hl := hy.len
        unfold prevI
        cases hi : fi ls x with
        | zero => rw [if_neg (by omega), wk_zero]; exact (if_pos (by omega)).symm
        | succ l => rw [hi] at hl; rw [if_pos ⟨hb, by omega⟩, nodeI_wk h.ok, if_pos (by omega)]; rfl
      rw [e]; exact h2
    | false =>
      have h1 := (lk.free x (by omega) fun k i hx => hasB_no hb k i x hx rfl).2.1
      rw [h1, nodeI_none] at h2
      have e : prevI ls x = -1 := by simp [prevI, hb]
      rw [e]; exact h2
  · have hb := Ring.out h.ok (n := n) (by simp [inN]; omega)
    have e : prevI ls n = -1 := by simp [prevI, hb]
    rw [e]
    exact Prev_no hr n hn
theorem List_any (h : Ring w p g c N ls) (n : Int) : Calls Try.prog 16 #[.pointer (some ⟨p, 0, none⟩), .int .i64 n] w fun e w' => e = .returned (.int .i64 (listI ls n)) ∧ Same w w' := by
  obtain ⟨S, hr, lk⟩ := h.mem
  by_cases hn : 0 ≤ n ∧ n < N
  · obtain ⟨x, rfl⟩ : ∃ x : Nat, n = x := ⟨n.toNat, by omega⟩
    have h2 := List_S hr x (by omega)
    cases hb : hasB ls x with
    | true =>
      obtain ⟨y, e, hy⟩ := hasB_at hb
      obtain rfl : x = y := by omega
      have h1 := lk.li _ (fi ls x + 1) hy.lists hy.len
      rw [wk_at hy] at h1
      rw [h1] at h2
      have e : listI ls x = (fk ls x : Nat) := by simp [listI, hb]
      rw [e]; exact h2
    | false =>
      have h1 := (lk.free x (by omega) fun k i hx => hasB_no hb k i x hx rfl).2.2
      rw [h1] at h2
      have e : listI ls x = -1 := by simp [listI, hb]
      rw [e]; exact h2
  · have hb := Ring.out h.ok (n := n) (by simp [inN]; omega)
    have e : listI ls n = -1 := by simp [listI, hb]
    rw [e]
    exact List_no hr n hn
/-- put behind a place of list k: its own one, or a node's. -/
theorem put_at (h : Ring w p g c N ls) (k i x : Nat) (hk : k < ls.length) (hi : i ≤ (Proofs.Ytglnjpbjlcbgoaa.row ls k).length) (hx : x < N) :
    Calls Try.prog 36 #[.pointer (some ⟨p, 0, none⟩), .int .i64 ((wk N ls k i : Nat) : Int), .int .i64 (x : Int)] w fun e w' => e = .returned (.int .i64 (if hasB ls x = false then 0 else 10)) ∧ Ring w' p g c N (if hasB ls x = false then insL ls k i x else ls) ∧ Only g w w' := by
  obtain ⟨S, hr, lk⟩ := h.mem
  have h1 := lk.li k i hk hi
  have h2 := lk.nx k i hk hi
  have hj := wk_lt h.ok hk i
  have hn := wk_lt h.ok hk (i + 1)
  cases hb : hasB ls x with
  | false =>
    have hf : ∀ k i, ¬ At ls k i x := fun k i hx => hasB_no hb k i x hx rfl
    have h3 := (lk.free x hx hf).2.2
    refine (put_yes hr _ x hj hx _ _ h1 h2 hn h3 (by omega)).mono ?_
    rintro e w1 ⟨rfl, hr1, ho1⟩
    rw [if_pos rfl, if_pos rfl]
    refine ⟨rfl, ⟨insL_ok h.ok hk hi hx hf, insS N ls S k i x, ?_, insS_ok h.ok lk hk hi hx hf⟩, ho1⟩
    rw [insL_len]
    exact hr1
  | true =>
    obtain ⟨y, e, hy⟩ := hasB_at hb
    obtain rfl : x = y := by omega
    have h3 := lk.li _ (fi ls x + 1) hy.lists hy.len
    rw [wk_at hy] at h3
    refine (put_no2 hr _ x hj hx _ _ h1 h3 (by omega) (by omega)).mono ?_
    rintro e w1 ⟨rfl, hr1, ho1⟩
    exact ⟨by rw [if_neg (by simp)], ⟨h.ok, S, hr1, lk⟩, ho1⟩
theorem put_free (h : Ring w p g c N ls) (a x : Nat) (ha : a < N) (hb : hasB ls a = false) :
    Calls Try.prog 36 #[.pointer (some ⟨p, 0, none⟩), .int .i64 (a : Int), .int .i64 (x : Int)] w fun e w' => e = .returned (.int .i64 10) ∧ Ring w' p g c N ls ∧ Only g w w' := by
  obtain ⟨S, hr, lk⟩ := h.mem
  have h3 := (lk.free a ha fun k i hx => hasB_no hb k i a hx rfl).2.2
  refine (put_no1 hr a x (by omega) h3).mono ?_
  rintro e w1 ⟨rfl, hr1, ho1⟩
  exact ⟨rfl, ⟨h.ok, S, hr1, lk⟩, ho1⟩
theorem Drop_any (h : Ring w p g c N ls) (n : Int) : Calls Try.prog 22 #[.pointer (some ⟨p, 0, none⟩), .int .i64 n] w fun e w' => e = .returned (.int .i64 (wrongI N ls n true)) ∧ Ring w' p g c N (dropL N ls n) ∧ Only g w w' := by
  obtain ⟨S, hr, lk⟩ := h.mem
  by_cases hn : 0 ≤ n ∧ n < N
  · obtain ⟨x, rfl⟩ : ∃ x : Nat, n = x := ⟨n.toNat, by omega⟩
    have hin : inN N (x : Int) = true := by rw [inN_iff]; exact hn
    cases hb : hasB ls x with
    | true =>
      obtain ⟨y, e, hy⟩ := hasB_at hb
      obtain rfl : x = y := by omega
      have h1 := lk.li _ (fi ls x + 1) hy.lists hy.len
      have h2 := lk.nx _ (fi ls x + 1) hy.lists hy.len
      have h3 := lk.pv _ (fi ls x) hy.lists (Nat.le_of_lt hy.len)
      rw [wk_at hy] at h1 h2 h3
      have e1 : wrongI N ls x true = 0 := by simp [wrongI, hin, hb]
      have e2 : dropL N ls x = delL ls (fk ls x) (fi ls x) := by unfold dropL; rw [if_pos e1]
      rw [e1, e2]
      refine (Drop_yes hr x (by omega) _ _ _ h1 h3 h2 (wk_lt h.ok hy.lists _) (wk_lt h.ok hy.lists _) (by omega)).mono ?_
      rintro e w1 ⟨rfl, hr1, ho1⟩
      refine ⟨rfl, ⟨delL_ok h.ok hy.lists hy.len, delS N ls S (fk ls x) (fi ls x), ?_, delS_ok h.ok lk hy.lists hy.len⟩, ho1⟩
      rw [delL_len]
      unfold delS
      rw [wk_at hy]
      exact hr1
    | false =>
      have h1 := (lk.free x (by omega) fun k i hx => hasB_no hb k i x hx rfl).2.2
      have e1 : wrongI N ls x true = 10 := by simp [wrongI, hin, hb]
      have e2 : dropL N ls x = ls := by unfold dropL; rw [if_neg (by omega)]
      rw [e1, e2]
      refine (Drop_no hr x (by omega) h1).mono ?_
      rintro e w1 ⟨rfl, hr1, ho1⟩
      exact ⟨rfl, ⟨h.ok, S, hr1, lk⟩, ho1⟩
  · have hin : inN N n = false := by simp [inN]; omega
    have e1 : wrongI N ls n true = 14 := by simp [wrongI, hin]
    have e2 : dropL N ls n = ls := by unfold dropL; rw [if_neg (by omega)]
    rw [e1, e2]
    refine (Drop_out hr n hn).mono ?_
    rintro e w1 ⟨rfl, hr1, ho1⟩
    exact ⟨rfl, ⟨h.ok, S, hr1, lk⟩, ho1⟩
theorem New_ring (N M : Nat) (w : World) (h1 : 1 ≤ N) (h2 : N ≤ 64) (h3 : 1 ≤ M) (h4 : M ≤ 64) :
    Calls Try.prog 8 #[.int .i64 (N : Int), .int .i64 (M : Int)] w fun e w' => (∃ p g c, e = .returned (.tuple #[.pointer (some ⟨p, 0, none⟩), .int .i64 0]) ∧ Ring w' p g c N (List.replicate M []) ∧ w.heap.size ≤ p ∧ w.heap.size ≤ g) ∧ Below w.heap.size w w' := by
  refine (New_yes N M w h1 h2 h3 h4).mono ?_
  rintro e w1 ⟨⟨p, g, c, rfl, hr, hp, hg⟩, hb⟩
  have hw : ∀ k i, i ≤ 1 → wk N (List.replicate M []) k i = N + k := by
    intro k i hi
    cases i with
    | zero => rfl
    | succ i => rw [wk_end (by rw [row_none]; exact Nat.zero_le _)]
  refine ⟨⟨p, g, c, rfl, ⟨none_ok h1 h2 h3 h4, S0 N, by rw [List.length_replicate]; exact hr, ?_, ?_, ?_, ?_⟩, hp, hg⟩, hb⟩
  · intro k i hk hi
    rw [row_none] at hi
    have hi : i = 0 := Nat.le_zero.1 hi
    subst hi
    rw [hw k 0 (by omega), hw k 1 (by omega)]
    simp [S0, ln0, show ¬ N + k < N by omega]
  · intro k i hk hi
    rw [row_none] at hi
    have hi : i = 0 := Nat.le_zero.1 hi
    subst hi
    rw [hw k 0 (by omega), hw k 1 (by omega)]
    simp [S0, ln0, show ¬ N + k < N by omega]
  · intro k i hk hi
    rw [row_none] at hi
    have hi : i = 0 := Nat.le_zero.1 hi
    subst hi
    rw [hw k 0 (by omega)]
    simp [S0, ln0, show ¬ N + k < N by omega]
    try omega
  · intro x hx _
    simp [S0, ln0, hx]
end
end Go.Proofs.Ytglnjpbjlcbgoaa
