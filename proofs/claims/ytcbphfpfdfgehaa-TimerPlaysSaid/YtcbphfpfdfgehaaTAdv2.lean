/-
  Advance in a law's state: what is due then. No conditions but that the number is of 64 bits.
-/
import Derived.Test.YtcbphfpfdfgehaaTAdv
namespace Go.Proofs.Ytcbphfpfdfgehaa
open Go.ChangeShapes Go.WideShapes Go.ChangeAt Go.RowKit

section
variable {w0 w : World} {c : Nat} {most now : Int} {L : List En} {X : Nat → Prop}
theorem take_keys {L : List En} {j : Nat} {a : En} {r : List En} (h : L.drop j = a :: r) : keysOf (L.take (j + 1)) = keysOf (L.take j) ++ [a.k] ∧ L.drop (j + 1) = r ∧ j < L.length ∧ L.take (j + 1) = L.take j ++ [a] := by
  have hlt : j < L.length := by
    rcases Nat.lt_or_ge j L.length with h1 | h1
    · exact h1
    · rw [List.drop_of_length_le h1] at h; cases h
  have h2 := List.drop_eq_getElem_cons hlt
  rw [h] at h2
  injection h2 with h3 h4
  have h5 : L.take (j + 1) = L.take j ++ [a] := by rw [List.take_add_one, List.getElem?_eq_getElem hlt, h3]; rfl
  refine ⟨?_, h4.symm, hlt, h5⟩
  rw [h5]
  unfold keysOf
  rw [List.map_append]
  rfl
theorem blk_slice {p : Option Addr} {n m c d k : Nat} (h : Blk (.slice p n c) k) : Blk (.slice p m d) k := by
  cases p with
  | none => simp [Blk, Value.ownBlock] at h
  | some a => simpa [Blk, Value.ownBlock] using h
theorem TSt.turned (h : TSt w0 w c most now L X) {w' : World} {F Y : Nat → Prop} (t : Turn F w w') (hF : ∀ k, F k → X k ∧ w0.heap.size ≤ k) (hY : ∀ k, Y k → X k ∨ (w.heap.size ≤ k ∧ k < w'.heap.size)) : TSt w0 w' c most now L Y := by
  obtain ⟨v, b, H, P, h1, h2, h3, h4, h5⟩ := h.ex
  refine ⟨⟨v, b, H, P, h1.kept t (fun k hk hx => (h5 k (hF k hx).1).2 hk), h2, h3, h4, fun k hk => ?_⟩, h.right, h.room, h.time, h.turn.trans t (fun k hk => .inr (hF k hk).2)⟩
  rcases hY k hk with h6 | h6
  · exact ⟨Nat.lt_of_lt_of_le (h5 k h6).1 t.size, (h5 k h6).2⟩
  · exact ⟨h6.2, fun hh => by have := h1.lt hh; omega⟩
theorem TSt.below (h : TSt w0 w c most now L X) {k : Nat} (hk : X k) : k < w.heap.size := by
  obtain ⟨v, b, H, P, h1, h2, h3, h4, h5⟩ := h.ex
  exact (h5 k hk).1
set_option maxRecDepth 20000 in
set_option maxHeartbeats 2000000 in
theorem TSt.advance_yes (h : TSt w0 w c most now L X) (n now' : Int) (h0 : 0 ≤ n) (hn : now + n = now') (hm : now' ≤ 1099511627776) :
    Calls Try.prog 28 #[.pointer (some ⟨c, 0, none⟩), .int .i64 n] w fun x w' => ∃ v, x = .returned (.tuple #[v, .int .i64 0]) ∧ Nums v (keysOf (gone L now')) w' ∧ TSt w0 w' c most now' (rest L now') (fun k => X k ∨ Blk v k) ∧ Kp X w w' ∧ ∀ k, Blk v k → w.heap.size ≤ k := by
  obtain ⟨p, cap, c0, c1, c2, f1⟩ := h.heads
  obtain ⟨i3, hi3, hz3, hs3, hb3⟩ := info_parts infoI
  have h1 := h.time
  have hroom := h.room
  have ew : IntKind.i64.wrap (1099511627776 - now) = 1099511627776 - now := wrap_fit' _ (by unfold fit; omega)
  have ew2 : IntKind.i64.wrap (now + n) = now' := by rw [hn]; exact wrap_fit' _ (by unfold fit; omega)
  have hd : decide (n < 0) = false := by simpa using h0
  have hd2 : decide (1099511627776 - now < n) = false := by simp; omega
  have HK := Lib.hid (h.clock now' ⟨by omega, hm⟩)
  have hlen : L.length ≤ 65536 := by omega
  have HL := Lib.hid hlen
  have HI := Lib.hid (And.intro hi3 (And.intro hz3 (And.intro hs3 hb3)))
  have HX := Lib.hid h
  clear h h0 hn hm c0 c2 h1 hroom hi3 hz3 hs3 hb3
  go_enter Try.func28, Try.ntmps28
  go_wp2
  go_loopg [4] L.length (fun z s4 wr => ∃ (j : Nat) (v : Value), z = L.length - j ∧ j ≤ L.length ∧ s4 = v ∧ Hid ((∀ e ∈ L.take j, e.d ≤ now') ∧ Nums v (keysOf (L.take j)) wr ∧ TSt w0 wr c most now' (L.drop j) (fun k => X k ∨ Blk v k) ∧ Kp X w wr ∧ ∀ k, Blk v k → w.heap.size ≤ k))
  case atStart => exact ⟨0, .slice none 0 0, rfl, Nat.zero_le _, rfl, Lib.hid ⟨fun e he => by simp at he, wrow_nil _ _ _, HK.out.1.fewer (fun k hk => hk.elim (fun h => h) (fun h => (blk_nil k h).elim)), HK.out.2, fun k hk => (blk_nil k hk).elim⟩⟩
  case round =>
    obtain ⟨j, v, hz, hj, rfl, HR⟩ := hrel
    cases hL : L.drop j with
    | nil =>
      have hs := HR.out.2.2.1
      rw [hL] at hs
      obtain ⟨p1, cap1, -, -, d2, -⟩ := hs.heads
      simp only [List.length_nil] at d2
      have HG := Lib.hid (gone_at hj HR.out.1 (fun a r e => by rw [hL] at e; cases e))
      clear hs hL
      go_wp2
      go_ret2
      refine ⟨_, rfl, ?_, ?_, HR.out.2.2.2.1, HR.out.2.2.2.2⟩
      · rw [HG.out.1]; exact HR.out.2.1
      · rw [HG.out.2]; exact HR.out.2.2.1
    | cons a r =>
      have hs := HR.out.2.2.1
      rw [hL] at hs
      obtain ⟨g1, o1, cap1, d2, d3, d4⟩ := hs.first
      have CD := Lib.hid (hs.due a.d)
      obtain ⟨t1, t2, t3, t4⟩ := take_keys hL
      have hrl : r.length + 1 ≤ 65536 := by
        have : (L.drop j).length = r.length + 1 := by rw [hL]; rfl
        rw [List.length_drop] at this
        have := HL.out
        omega
      have hgt : (0 : Int) < (r.length : Int) + 1 := by omega
      by_cases hdue : a.d ≤ now'
      · rw [decide_eq_true hdue] at CD
        obtain ⟨pv, cv, hv⟩ := WRow.sl HR.out.2.1
        subst hv
        obtain ⟨m, hm⟩ : ∃ m, (keysOf (L.take j)).length = m := ⟨_, rfl⟩
        have hml : m ≤ 65536 := by
          have : m = (L.take j).length := by rw [← hm]; unfold keysOf; rw [List.length_map]
          rw [this, List.length_take]
          have := HL.out
          omega
        have HA := Lib.hid (And.intro hdue (And.intro t1 (And.intro t2 (And.intro t3 (And.intro t4 (And.intro hs hm))))))
        have HRO := Lib.hid (show WRow (wr.alloc (.cells #[.int .i64 a.k] 3)) 3 1 (.slice pv m cv) m (icells (keysOf (L.take j))) from by
          have := HR.out.2.1.past ((Turn.refl NoBlock wr).alloc (.cells #[.int .i64 a.k] 3))
          unfold Nums at this
          rw [hm] at this
          exact this)
        have HSR := Lib.hid (Rd.src (rd_new wr 3 1 #[.int .i64 a.k] rfl) 36 3 intsT (icells_one [a.k]))
        have HB := Lib.hid (And.intro (show m + 1 ≤ maxLen by unfold maxLen; omega) (show (m + 1) * 8 ≤ 140737488355328 by omega))
        have KT := Lib.hid (fun (W7 : World) (v7 : Value) (t7 : Turn (Blk (.slice pv m cv)) (wr.alloc (.cells #[.int .i64 a.k] 3)) W7) (k7 : ∀ k, Blk v7 k → Blk (.slice pv m cv) k ∨ (k = (wr.alloc (.cells #[.int .i64 a.k] 3)).heap.size ∧ k < W7.heap.size)) => show TSt w0 W7 c most now' (a :: r) (fun k => X k ∨ Blk v7 k) ∧ Kp X wr W7 ∧ (∀ k, Blk v7 k → w.heap.size ≤ k) from by
          have tt : Turn (Blk (.slice pv m cv)) wr W7 := (((Turn.refl (Blk (.slice pv m cv)) wr).alloc _).trans t7 (fun _ h => .inl h))
          have hb : ∀ k, Blk (.slice pv m cv) k → w.heap.size ≤ k := fun k hk => HR.out.2.2.2.2 k (blk_slice hk)
          have hsz := HX.out.turn.size
          have hk2 := HR.out.2.2.2.1.size
          refine ⟨hs.turned tt (fun k hk => ⟨.inr (blk_slice hk), Nat.le_trans hsz (hb k hk)⟩) (fun k hk => ?_), ⟨_, tt, fun k hk hf => by have := HX.out.below hk; have := hb k hf; omega⟩, fun k hk => ?_⟩
          · rcases hk with hk | hk
            · exact .inl (.inl hk)
            · rcases k7 k hk with h1 | h1
              · exact .inl (.inr (blk_slice h1))
              · refine .inr ⟨?_, h1.2⟩
                rw [h1.1, World.size_alloc]; omega
          · rcases k7 k hk with h1 | h1
            · exact hb k h1
            · rw [h1.1, World.size_alloc]; omega)
        obtain ⟨hi3, hz3, hs3, hb3⟩ := HI.out
        have HHI := Lib.hid (And.intro hi3 (And.intro hz3 (And.intro hs3 hb3)))
        rw [hm] at HR ⊢
        generalize hrl' : r.length = rl at *
        clear hs hL t1 t2 t3 t4 hdue hi3 hz3 hs3 hb3 hm hrl'
        go_wp2_with (first
          | (go_at_call 56; (with_reducible refine CD.out.mono ?_); rintro e w2 ⟨rfl, rfl⟩)
          | (at_builtin; refine wpList_append_w rfl (.tmp 42) (.tmp 50) 36 36 rfl HRO.out i3 _ 8 intsT HHI.out.1 HHI.out.2.1 HHI.out.2.2.1 HHI.out.2.2.2 rfl rfl rfl HSR.out HB.out.1 HB.out.2 ?_; intro v7 W7 r7 t7 k7; have S7 := Lib.hid (KT.out W7 v7 t7 k7); have R7 := Lib.hid r7; clear r7 t7 k7)
          | (go_at_call 57; (with_reducible refine (S7.out.1.pop0).mono ?_); rintro e w8 ⟨rfl, m8⟩; have M8 := Lib.hid m8; clear m8))
        go_roundg (L.length - (j + 1))
        case measure => have := HA.out.2.2.2.1; omega
        case rel =>
          obtain ⟨q1, q2, q3, q4, q5, q6, q7⟩ := HA.out
          refine ⟨j + 1, v7, rfl, by omega, rfl, Lib.hid ⟨fun e he => ?_, ?_, ?_, ?_, S7.out.2.2⟩⟩
          · rw [q5] at he
            rcases List.mem_append.1 he with h1 | h1
            · exact HR.out.1 e h1
            · rw [List.mem_singleton] at h1
              rw [h1]; exact q1
          · have hr7 : WRow w8 3 1 v7 (m + 1) (icells (keysOf (L.take j)) ++ #[Value.int .i64 a.k].toList) := M8.out.2.row R7.out (fun k hk => .inr hk)
            unfold Nums
            rw [q2, List.length_append, q7]
            unfold icells at hr7 ⊢
            rw [List.map_append]
            exact hr7
          · rw [q3]; exact M8.out.1
          · exact (HR.out.2.2.2.1.trans S7.out.2.1 (fun k hk => HX.out.below hk)).trans (M8.out.2.mono (fun k hk => .inl hk)) (fun k hk => HX.out.below hk)
      · rw [decide_eq_false hdue] at CD
        have HG := Lib.hid (gone_at hj HR.out.1 (fun a' r' e => by rw [hL] at e; injection e with e1 e2; rw [← e1]; exact hdue))
        generalize r.length = rl at *
        generalize a.d = ad at *
        clear hs hL t1 t2 t4 hdue
        go_wp2_with (go_at_call 56; (with_reducible refine CD.out.mono ?_); rintro e w2 ⟨rfl, rfl⟩)
        go_ret2
        refine ⟨_, rfl, ?_, ?_, HR.out.2.2.2.1, HR.out.2.2.2.2⟩
        · rw [HG.out.1]; exact HR.out.2.1
        · rw [HG.out.2]; exact HR.out.2.2.1
end
end Go.Proofs.Ytcbphfpfdfgehaa
