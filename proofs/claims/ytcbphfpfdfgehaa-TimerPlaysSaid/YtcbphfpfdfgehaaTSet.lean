/-
  Set in a law's state. No conditions but that the numbers are of 64 bits.
-/
import Derived.Test.YtcbphfpfdfgehaaTOps2
namespace Go.Proofs.Ytcbphfpfdfgehaa
open Go.ChangeShapes Go.WideShapes Go.ChangeAt Go.RowKit

section
variable {w0 w : World} {c : Nat} {most now : Int} {L : List En} {X : Nat → Prop}
theorem TSt.heads (h : TSt w0 w c most now L X) : ∃ p cap, w.cell? ⟨c, 0, none⟩ = some (.int .i64 most) ∧ w.cell? ⟨c, 1, none⟩ = some (.int .i64 now) ∧ w.cell? ⟨c, 2, none⟩ = some (.slice p L.length cap) ∧ w.frozen? ⟨c, 1, none⟩ = false := by
  obtain ⟨v, b, H, P, h1, h2, h3, -⟩ := h.ex
  obtain ⟨p, cap, rfl⟩ := h1.row.sl
  have := h1.c2
  rw [h3.length_eq] at this
  exact ⟨p, cap, h1.c0, h1.c1, this, h1.typ.free 1⟩
set_option maxRecDepth 20000 in
set_option maxHeartbeats 1000000 in
theorem TSt.set (h : TSt w0 w c most now L X) (k d : Int) (hk : fit k) (hd : fit d) :
    Calls Try.prog 23 #[.pointer (some ⟨c, 0, none⟩), .int .i64 k, .int .i64 d] w fun x w' => x = .returned (.tuple #[.bool (setB now d), .int .i64 (setS most now L k d)]) ∧ TSt w0 w' c most now (setL most now L k d) X ∧ Kp X w w' := by
  have CD := Lib.hid (h.due d)
  unfold setS setL setB
  by_cases h1 : d ≤ now
  · rw [if_pos h1, if_pos h1, decide_eq_true h1]
    rw [decide_eq_true h1] at CD
    cases hh : hasK L k with
    | false =>
      obtain ⟨b, c3, hlook⟩ := h.hasnt k hk hh
      rw [dropK_no hh]
      have HF := Lib.hid h
      clear h hh h1
      go_enter Try.func23, Try.ntmps23
      go_wp2_with (go_at_call 56; (with_reducible refine CD.out.mono ?_); rintro e w1 ⟨rfl, rfl⟩)
      go_ret2
      exact ⟨rfl, HF.out, Kp.of_past (Turn.refl _ _)⟩
    | true =>
      obtain ⟨b, i, c3, hlook, hrem⟩ := h.has k hk hh
      have HR := Lib.hid hrem
      clear h hh hrem h1
      go_enter Try.func23, Try.ntmps23
      go_wp2_with (first
        | (go_at_call 56; (with_reducible refine CD.out.mono ?_); rintro e w1 ⟨rfl, rfl⟩)
        | (go_at_call 57; (with_reducible refine HR.out.mono ?_); rintro e w1 ⟨rfl, m1⟩; have M1 := Lib.hid m1; clear m1))
      go_ret2
      exact ⟨rfl, M1.out⟩
  · rw [if_neg h1, if_neg h1, decide_eq_false h1]
    rw [decide_eq_false h1] at CD
    by_cases h2 : 1099511627776 < d
    · rw [if_pos h2, if_pos h2]
      have hany : ∃ (b : Nat) (z : Int) (q : Bool), w.cell? ⟨c, 3, none⟩ = some (.map (some b)) ∧ Sem.run Try.prog (Instr.lookup 113 (.map (some b)) (.int .i64 k) true) w = .ok (.tuple #[.int .i64 z, .bool q]) w := by
        cases hh : hasK L k with
        | false =>
          obtain ⟨b, c3, hlook⟩ := h.hasnt k hk hh
          exact ⟨b, _, _, c3, hlook⟩
        | true =>
          obtain ⟨b, i, c3, hlook, -⟩ := h.has k hk hh
          exact ⟨b, _, _, c3, hlook⟩
      obtain ⟨b, z, q, c3, hlook⟩ := hany
      have HF := Lib.hid h
      clear h h1
      go_enter Try.func23, Try.ntmps23
      go_wp2_with (go_at_call 56; (with_reducible refine CD.out.mono ?_); rintro e w1 ⟨rfl, rfl⟩)
      go_ret2
      exact ⟨rfl, HF.out, Kp.of_past (Turn.refl _ _)⟩
    · rw [if_neg h2, if_neg h2]
      cases hh : hasK L k with
      | true =>
        rw [if_neg (fun e => by cases e.1), if_neg (fun e => by cases e.1)]
        obtain ⟨b, i, g, o, n, cap, c3, hlook, c2, hin, ⟨u, hu⟩, hfr, hset⟩ := h.again k d hk hd hh
        have HR := Lib.hid hset
        clear h hh h1 hset
        go_enter Try.func23, Try.ntmps23
        go_wp2_with (first
          | (go_at_call 56; (with_reducible refine CD.out.mono ?_); rintro e w1 ⟨rfl, rfl⟩)
          | (go_at_call 58; (with_reducible refine HR.out.mono ?_); rintro e w1 ⟨rfl, m1⟩; have M1 := Lib.hid m1; clear m1))
        go_ret2
        exact ⟨rfl, M1.out⟩
      | false =>
        obtain ⟨b, c3, hlook⟩ := h.hasnt k hk hh
        obtain ⟨p, cap, c0, c1, c2, -⟩ := h.heads
        by_cases h3 : most ≤ L.length
        · rw [if_pos ⟨rfl, h3⟩, if_pos ⟨rfl, h3⟩]
          have hq : ((L.length : Int) == most) = true := by have := h.room.1; simp; omega
          have HF := Lib.hid h
          generalize L.length = n at *
          clear h hh h1 h3
          go_enter Try.func23, Try.ntmps23
          go_wp2_with (go_at_call 56; (with_reducible refine CD.out.mono ?_); rintro e w1 ⟨rfl, rfl⟩)
          go_quiet (fail)
          go_wp2
          go_ret2
          exact ⟨rfl, HF.out.past ((Turn.refl _ _).drewN _), Kp.of_past ((Turn.refl _ _).drewN _)⟩
        · rw [if_neg (fun e => h3 e.2), if_neg (fun e => h3 e.2)]
          have hq : ((L.length : Int) == most) = false := by simp; omega
          have CF := Lib.hid (fun W (t : Turn NoBlock w W) => (h.past t).fresh k d hk hd hh (by omega))
          generalize hn : L.length = n at *
          clear h hh h1 h3 hn
          go_enter Try.func23, Try.ntmps23
          go_wp2_with (go_at_call 56; (with_reducible refine CD.out.mono ?_); rintro e w1 ⟨rfl, rfl⟩)
          go_quiet (fail)
          go_wp2_with (first
            | (go_at_call 59; (with_reducible refine (CF.out _ ((Turn.refl _ _).drewN _)).mono ?_); rintro e w1 ⟨rfl, m1⟩; have M1 := Lib.hid m1; clear m1))
          go_ret2
          obtain ⟨m1, F, t, hF⟩ := M1.out
          exact ⟨rfl, m1, F, ((Turn.refl F w).drewN _).trans t (fun _ h => .inl h), hF⟩
end
end Go.Proofs.Ytcbphfpfdfgehaa
