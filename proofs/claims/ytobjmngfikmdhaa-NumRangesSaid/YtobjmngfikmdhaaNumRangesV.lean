/-
  The statement NumRanges answers true at all fours of numbers of 64 bits.
-/
import Derived.Test.YtobjmngfikmdhaaNumRangesW
import Derived.Test.YtobjmngfikmdhaaNumBelow3
namespace Go.Proofs.Ytobjmngfikmdhaa
open Go.ChangeShapes Go.WideShapes Go.ChangeAt Go.RowKit

theorem within_two (a n s : Int) (ha : fit a) (hn : fit n) (hs : fit s) :
    ∃ ok : Bool, (∀ w, Calls Try.prog 24 #[.int .i64 a, .int .i64 n, .int .i64 s] w fun e w' => e = .returned (.bool ok) ∧ w = w') ∧ (ok = true ↔ 0 ≤ a ∧ 0 ≤ n ∧ a + n ≤ s) := by
  by_cases h : 0 ≤ a ∧ 0 ≤ n ∧ a + n ≤ s
  · exact ⟨_, fun w => within_yes a n s w h hs.2, by simp [h]⟩
  · exact ⟨_, fun w => within_no a n s w h ha hn hs, by simpa using h⟩
theorem overlap_two (a n b m : Int) (ha : fit a) (hn : fit n) (hb : fit b) (hm : fit m) :
    ∃ ok : Bool, (∀ w, Calls Try.prog 26 #[.int .i64 a, .int .i64 n, .int .i64 b, .int .i64 m] w fun e w' => e = .returned (.bool ok) ∧ w = w') ∧ (ok = true ↔ 0 ≤ a ∧ 1 ≤ n ∧ 0 ≤ b ∧ 1 ≤ m ∧ a < b + m ∧ b < a + n) := by
  by_cases h : 0 ≤ a ∧ 1 ≤ n ∧ 0 ≤ b ∧ 1 ≤ m ∧ a < b + m ∧ b < a + n
  · exact ⟨_, fun w => overlap_yes a n b m w h ha hn hb hm, by simp [h]⟩
  · exact ⟨_, fun w => overlap_no a n b m w h ha hn hb hm, by simpa using h⟩
theorem pages_two (a b : Int) (ha : fit a) (hb : fit b) :
    ∃ (pf pn : Int) (pk : Bool), (∀ w, Calls Try.prog 27 #[.int .i64 a, .int .i64 b] w fun e w' => e = .returned (.tuple #[.int .i64 pf, .int .i64 pn, .bool pk]) ∧ w = w') ∧
      (pk = true ∧ 0 ≤ a ∧ 0 ≤ b ∧ fit (a + b) ∧ pf = a / 64 ∧ (b = 0 ∧ pn = 0 ∨ 1 ≤ b ∧ pn = (a + b - 1) / 64 - a / 64 + 1) ∨ pk = false ∧ pf = 0 ∧ pn = 0 ∧ ¬ (0 ≤ a ∧ 0 ≤ b ∧ fit (a + b))) := by
  by_cases h : 0 ≤ a ∧ 0 ≤ b ∧ fit (a + b)
  · obtain ⟨h1, h2, h3⟩ := h
    by_cases h4 : b = 0
    · subst h4
      exact ⟨_, _, _, fun w => pages_none a w h1 ha, .inl ⟨rfl, h1, h2, h3, rfl, .inl ⟨rfl, rfl⟩⟩⟩
    · have h5 : 1 ≤ b := by omega
      exact ⟨_, _, _, fun w => pages_yes a b w h1 h5 h3.2, .inl ⟨rfl, h1, h2, h3, rfl, .inr ⟨h5, rfl⟩⟩⟩
  · exact ⟨_, _, _, fun w => pages_no a b w h ha hb, .inr ⟨rfl, rfl, rfl, h⟩⟩

theorem ranges_walk (a b c d : Int) (w : World) (ha : fit a) (hb : fit b) (hc : fit c) (hd : fit d) :
    Calls Try.prog 6 #[.agg #[.int .i64 a, .int .i64 b, .int .i64 c, .int .i64 d]] w fun e w' => e = .returned (.bool true) ∧ Below w.heap.size w w' := by
  have na := dig_size a ha
  have nb := dig_size b hb
  have nc := dig_size c hc
  have nd := dig_size d hd
  obtain ⟨u, qe, hu, hub, cE⟩ := add_val (dig a) (dig b) _ _ a b (of_num a ha) (of_num b hb) (by omega)
  obtain ⟨r, qr, hr, hrb, cR⟩ := add_val (dig c) u _ (!qe) c (-(a + b)) (of_num c hc) (num5_turn u qe _ hu) (by omega)
  obtain ⟨f, qf, hf, hfb, cF⟩ := add_val (dig c) (dig d) _ _ c d (of_num c hc) (of_num d hd) (by omega)
  obtain ⟨n, ok, cI, hI⟩ := int5 u qe (a + b) hu
  obtain ⟨wv, cW, hW⟩ := within_two a b c ha hb hc
  obtain ⟨ov, cO, hO⟩ := overlap_two a b c d ha hb hc hd
  obtain ⟨pf, pn, pk, cP, hP⟩ := pages_two a b ha hb
  refine ranges_over a b c d n pf pn (decide (a < 0)) (decide (b < 0)) (decide (c < 0)) (decide (d < 0)) qe qr qf ok (decide (c < a + b)) (decide (a < c + d)) wv ov pk (dig a) (dig b) (dig c) (dig d) u r f w
    (fun w => of_val a ha w) (fun w => of_val b hb w) (fun w => of_val c hc w) (fun w => of_val d hd w) cE (fun w => turn5 u qe w) cR cI cF
    (fun w => below_val c (a + b) hc u qe hu (by omega) w) (fun w => below_val a (c + d) ha f qf hf (by omega) w) cW cO cP (fun w => awake_any w) ?_ ?_ hI ⟨ha, hb, hc, hd⟩ hP
  · obtain ⟨hr1, hr2⟩ := hr
    have h0 := val5_bd r hr1
    have hz := val5_nil r hr1
    refine hW.trans ⟨fun ⟨h1, h2, h3⟩ => ⟨h1, h2, ?_⟩, fun ⟨h1, h2, h3⟩ => ⟨h1, h2, ?_⟩⟩
    · cases qr
      · exact .inl rfl
      · simp at hr2
        exact .inr (hz.1 (by omega))
    · rcases h3 with rfl | h3
      · simp at hr2
        omega
      · have := hz.2 h3
        split at hr2 <;> omega
  · refine hO.trans ?_
    simp only [decide_eq_true_eq]
    exact ⟨fun ⟨h1, h2, h3, h4, h5, h6⟩ => ⟨h1, h2, h3, h4, h6, h5⟩, fun ⟨h1, h2, h3, h4, h5, h6⟩ => ⟨h1, h2, h3, h4, h6, h5⟩⟩
end Go.Proofs.Ytobjmngfikmdhaa
