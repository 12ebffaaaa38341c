/-
  Contracts of the forest's path, Below, depth and root. Condition: the forest is one.
-/
import Derived.Test.YthndfhkkaichiaaXb
import Derived.Deep.LoopGhost
namespace Go.Proofs.Ythndfhkkaichiaa
open Go.RowKit Go.Maps

set_option maxRecDepth 100000 in
set_option maxHeartbeats 4000000 in
theorem path_any (fp B : Nat) (L : List Gr) (l : List Int) (m k x : Int) (w : World) (h : IsF w B fp L l m k) (hx : I64 x) :
    Calls Try.prog 46 #[.pointer (some ⟨fp, 0, none⟩), .int .i64 x] w fun e w' => (∃ a c, e = .returned (.slice a (pth L x).length c) ∧ RowO w' w.heap.size (.slice a (pth L x).length c) (pth L x)) ∧ Below w.heap.size w w' := by
  obtain ⟨tp, tg, mp, bl, hf, _⟩ := h.fo
  have ok := h.ok
  clear h
  have h1 := hf.c1
  have HL := hf.look hx
  have HF := Lib.hid hf
  have HD := Lib.hid (ok.deep x)
  have HI : Hid (∀ y, has L y = true → I64 (gr L y).pa) := Lib.hid fun y hy => by
    have h1 := ok.pa_lt hy
    have h2 := ok.mle
    have h3 := ok.k1
    unfold I64
    omega
  have HP : Hid (∀ y, has L y = true → pth L y = y :: pth L (gr L y).pa) := Lib.hid fun y hy => ok.yes hy
  clear hf ok
  go_enter Try.func46, Try.ntmps46
  go_wp2_with fail
  go_loopw [1, 5, 6] (fun i v q wr => ∃ (y : Int) (done : List Int) (a : Option Addr) (c : Nat), i = .int .i64 y ∧ v = .slice a done.length c ∧ I64 y ∧ q = ptV (gOf L bl y) ∧ Hid (done ++ pth L y = pth L x) ∧ RowO wr w.heap.size (.slice a done.length c) done ∧ Below w.heap.size w wr) (fun i _ _ _ => (pth L (intOf i)).length)
  case atStart => exact ⟨x, [], none, 0, rfl, rfl, hx, rfl, Lib.hid rfl, RowO.nil _ _, Below.refl _ _⟩
  case round =>
    obtain ⟨y, done, a, c, rfl, rfl, hy, rfl, HE, hro, hb⟩ := hrel
    cases hh : has L y with
    | false =>
      rw [ptV_no hh]
      have HN := Lib.hid (pth_no hh)
      clear hh
      have e : done = pth L x := by have := HE.out; rwa [HN.out, List.append_nil] at this
      subst e
      go_wp2_with fail
      go_ret
      exact ⟨⟨a, c, rfl, hro⟩, hb⟩
    | true =>
      rw [ptV_yes hh]
      have hp := HI.out y hh
      have HE2 : Hid (done ++ [y] ++ pth L (gr L y).pa = pth L x) := Lib.hid (by have := HE.out; rw [HP.out y hh] at this; simpa using this)
      have hlen : done.length ≤ 8 := by have := congrArg List.length HE.out; rw [List.length_append] at this; have := HD.out; omega
      have HX : Hid (∀ W : World, Fo W fp tp tg mp bl L l m → W.cell? ⟨bl y, 0, none⟩ = some (.int .i64 (gr L y).pa)) := Lib.hid fun W hW => (hW.grp y hh).c0
      have HM : Hid ((pth L (gr L y).pa).length < (pth L y).length) := Lib.hid (by rw [HP.out y hh, List.length_cons]; omega)
      have hbs := hb.size
      have hA := OneAt.new wr y
      have hba : Below w.heap.size w (wr.alloc (.cells #[.int .i64 y] 3)) := Below.allocS hb _
      have hroa : RowO (wr.alloc (.cells #[.int .i64 y] 3)) w.heap.size (.slice a done.length c) done := hro.alloc _
      clear hh
      generalize (gr L y).pa = p at *
      go_wp2_with (first | (refine wpList_append rfl _ _ rfl w.heap.size (.slice a done.length c) _ done [y] rfl rfl (by simp; omega) hroa hA.src (by simp; omega) ?_; intro v' w2 hro2 hg2; have hb2 := hba.trans (grown_below hroa hba.size hg2); have hf2 := HF.out.below hb2; have q1 := hf2.c1; have q2 := HX.out w2 hf2; have q3 := hf2.look hp))
      obtain ⟨a', c', rfl⟩ := hro2.sl
      refine ⟨⟨p, done ++ [y], a', c', rfl, rfl, hp, rfl, HE2, hro2, hb2⟩, HM.out⟩
end Go.Proofs.Ythndfhkkaichiaa
