/-
  What 'take', 'id' and 'find' of an arena (i) answer, and what they make of its memory. No conditions but that the arena is one that calls can make.
-/
import Derived.Test.YtfpmbbplgdkogaaRows
import Derived.Test.YtfpmbbplgdkogaaModelOK
import Derived.Test.YtfpmbbplgdkogaaSmall
import Derived.BigQuiet
namespace Go.Proofs.Ytfpmbbplgdkogaa
open Go.ChangeShapes Go.WideShapes Go.ChangeAt Go.RowKit

theorem iinfo : (Try.prog.info? 61).map (fun i => (i.zero, i.size, i.bytes)) = some (some (.agg #[.int .i64 0, .bool false, (.int .i64 0)]), 3, 24) := by kernel_rfl
theorem islots : Try.prog.underlying 55 = some (.slice 61) := by kernel_rfl

theorem itake_freed (w : World) (a : Nat) (vs : Value) (g c n : Nat) (m : Mod) (init : List Nat) (k : Nat) (hn : init.length = n) (h : Holds w 57 61 3 a vs (.slice (some ⟨g, 0, none⟩) (n + 1) c) m) (hf : m.freed = init ++ [k]) (hb : n < 65536) :
    Calls Try.prog 31 #[.pointer (some ⟨a, 0, none⟩)] w fun e w' => e = .returned (.tuple #[.int .i64 k, .bool true]) ∧ w' = w.setCell ⟨a, 2, none⟩ (.slice (some ⟨g, 0, none⟩) n c) := by
  have c1 := cell_at h.head 2
  have c2 := free_at h.head 2
  have hfo := h.freed
  have hl : m.freed.length = n + 1 := by rw [hf]; simp [hn]
  rw [hl] at hfo
  have c3 := hfo.cellAt n (by omega)
  rw [hf] at c3
  have c4 : (natsOf (init ++ [k]))[n]? = some (.int .i64 (k : Int)) := by simp [natsOf, ← hn]
  rw [c4] at c3
  obtain ⟨g', cap', he, hc, hc'⟩ := own_shape hfo (by omega)
  simp at he
  obtain ⟨rfl, rfl⟩ := he
  simp at c1
  have hne : (n == c) = false := by simp; omega
  clear h hf hfo hl c4 hn
  go_enter Try.func31, Try.ntmps31
  go_wp2
  go_ret2
  exact ⟨rfl, rfl⟩
theorem itake_full (w : World) (a : Nat) (vs vf : Value) (m : Mod) (h : Holds w 57 61 3 a vs vf m) (hf : m.freed = []) (hl : m.slots.length = m.cap) :
    Calls Try.prog 31 #[.pointer (some ⟨a, 0, none⟩)] w fun e w' => e = .returned (.tuple #[.int .i64 0, .bool false]) ∧ w' = w := by
  obtain ⟨p, cap, hvs⟩ := own_slice h.slots
  obtain ⟨p', cap', hvf⟩ := own_slice h.freed
  rw [hf, List.length_nil] at hvf
  rw [hl] at hvs
  subst hvs hvf
  have c0 := cell_at h.head 0
  have c1 := cell_at h.head 1
  have c2 := cell_at h.head 2
  simp at c0 c1 c2
  obtain ⟨n, hn⟩ : ∃ n, m.cap = n := ⟨_, rfl⟩
  rw [hn] at c0 c1
  clear h hf hl hn
  go_enter Try.func31, Try.ntmps31
  go_wp2
  go_ret2
  exact ⟨rfl, rfl⟩
theorem itake_new (w : World) (a : Nat) (vs vf : Value) (m : Mod) (h : Holds w 57 61 3 a vs vf m) (hf : m.freed = []) (hl : m.slots.length < m.cap) (hc : m.cap ≤ 65536) :
    Calls Try.prog 31 #[.pointer (some ⟨a, 0, none⟩)] w fun e w' => e = .returned (.tuple #[.int .i64 m.slots.length, .bool true]) ∧
      ∃ g c, (vs.ownBlock = some g ∨ w.heap.size ≤ g) ∧ Holds w' 57 61 3 a (.slice (some ⟨g, 0, none⟩) (m.slots.length + 1) c) vf { m with slots := m.slots ++ [⟨0, false, (.int .i64 0)⟩] } ∧ Turn (Foot a vs vf) w w' := by
  obtain ⟨i, hi, hz0, hz1, hz2⟩ := info_parts iinfo
  have hso := h.slots
  obtain ⟨p, cap, hvs⟩ := own_slice h.slots
  obtain ⟨p', cap', hvf⟩ := own_slice h.freed
  rw [hf, List.length_nil] at hvf
  have c0 := cell_at h.head 0
  have c1 := cell_at h.head 1
  have c2 := cell_at h.head 2
  simp at c0 c1 c2
  have H2 : Hid (vs = .slice p m.slots.length cap) := hvs
  rw [hvf] at c2
  rw [hvs] at c1 hso
  obtain ⟨xs, hxs⟩ : ∃ xs, cellsOf m.slots = xs := ⟨_, rfl⟩
  rw [hxs] at hso
  obtain ⟨n, hn⟩ : ∃ n, m.slots.length = n := ⟨_, rfl⟩
  obtain ⟨K, hK⟩ : ∃ K, m.cap = K := ⟨_, rfl⟩
  rw [hn] at c1 hl hso ⊢
  rw [hK] at c0 hl hc
  have H3 : Hid (m.slots.length = n) := hn
  have H5 : Hid (cellsOf m.slots = xs) := hxs
  have H9 : Hid (Holds w 57 61 3 a vs vf m) := h
  have H7 : Hid (p = none ∨ p ≠ none) := Classical.em _
  clear hvs hvf hxs hn hK hf h
  have hne : ((n : Int) == (K : Int)) = false := by simp; omega
  have q2 : ∀ u ∈ [Value.int .i64 0, .bool false, (.int .i64 0)], u.oneCell' = true := by
    intro u hu
    simp at hu
    rcases hu with rfl | rfl | rfl <;> rfl
  have q3 : n + 1 ≤ maxLen := by unfold maxLen; omega
  have q4 : (n + 1) * 24 ≤ 140737488355328 := by omega
  go_enter Try.func31, Try.ntmps31
  go_wp2_with (at_builtin; refine wpList_append_lies _ rfl (.tmp 45) (.tmp 47) 55 rfl 0 61 i _ 3 24 islots hi hz0 hz1 hz2 rfl (by decide) _ n xs rfl (hso.alloc _) ⟨w.heap.size, 0, none⟩ 1 1 [.int .i64 0, .bool false, (.int .i64 0)] rfl rfl (fun j u hu => World.news_of_block (heap_alloc_new w _) j u (by simpa using hu)) q2 (by decide) q3 q4 (Nat.zero_le _) _ rfl ?_)
  intro g c1' w1 hown hgrow hat hlt
  have hvs := H2.out
  have hn := H3.out
  have hxs := H5.out
  have hh := H9.out
  rw [← hn, ← hxs] at hown
  rw [← hn, ← hvs] at hat
  rw [← hn, ← hvs] at hgrow
  obtain ⟨hA, hB, hC⟩ := step_new (s := ⟨0, false, (.int .i64 0)⟩) hh rfl (by decide) (by decide) (by decide) hown hgrow
  have d1 := cell_at hA 1
  have d2 := free_at hA 1
  simp at d1
  rw [hvs, hn] at d1
  rw [hn] at hB hC
  have G1 : Hid (Holds (w1.setCell ⟨a, 1, none⟩ (.slice (some ⟨g, 0, none⟩) (n + 1) c1')) 57 61 3 a (.slice (some ⟨g, 0, none⟩) (n + 1) c1') vf { m with slots := m.slots ++ [⟨0, false, (.int .i64 0)⟩] }) := hB
  have G2 : Hid (Turn (Foot a vs vf) w (w1.setCell ⟨a, 1, none⟩ (.slice (some ⟨g, 0, none⟩) (n + 1) c1'))) := hC
  have G3 : Hid (vs.ownBlock = some g ∨ g = w.heap.size + 1) := hat
  clear hvs hn hxs hh hown hgrow hat hB hC hA
  go_wp2
  go_ret2
  refine ⟨rfl, g, c1', ?_, G1.out, G2.out⟩
  rcases G3.out with hg | hg
  · exact .inl hg
  · right
    omega

theorem itake_none (w : World) (a : Nat) (vs vf : Value) (m : Mod) (h : Holds w 57 61 3 a vs vf m) (ht : m.take (.int .i64 0) = none) :
    Calls Try.prog 31 #[.pointer (some ⟨a, 0, none⟩)] w fun e w' => e = .returned (.tuple #[.int .i64 0, .bool false]) ∧ w' = w :=
  itake_full w a vs vf m h (Mod.take_none ht).1 (Mod.take_none ht).2

theorem itake_some (w : World) (a : Nat) (vs vf : Value) (m m1 : Mod) (k : Nat) (h : Holds w 57 61 3 a vs vf m) (ok : m.OK) (ht : m.take (.int .i64 0) = some (k, m1)) :
    Calls Try.prog 31 #[.pointer (some ⟨a, 0, none⟩)] w fun e w' => e = .returned (.tuple #[.int .i64 k, .bool true]) ∧
      ∃ vs1 vf1, Holds w' 57 61 3 a vs1 vf1 m1 ∧ Turn (Foot a vs vf) w w' ∧ ∀ j, Foot a vs1 vf1 j → Foot a vs vf j ∨ w.heap.size ≤ j := by
  have hr := ok.room
  have hl := ok.len
  have hc := ok.cap
  rcases Mod.take_cases ht with ⟨init, hf, rfl⟩ | ⟨hf, hne, rfl, rfl⟩
  · have hfl : m.freed.length = init.length + 1 := by rw [hf]; simp
    obtain ⟨g, c, rfl, _⟩ := own_shape h.freed (by omega)
    rw [hfl] at h
    obtain ⟨s1, s2⟩ := step_pop h hf rfl (by decide) (by decide)
    refine (itake_freed w a vs g c init.length m init k rfl h hf (by omega)).mono ?_
    rintro e w' ⟨rfl, rfl⟩
    refine ⟨rfl, vs, _, s1, ?_, ?_⟩
    · rw [hfl]; exact s2
    · intro j hj
      left
      rcases hj with hj | hj | hj
      · exact .inl hj
      · exact .inr (.inl hj)
      · exact .inr (.inr (by simpa [Value.ownBlock] using hj))
  · refine (itake_new w a vs vf m h hf (by omega) hc).mono ?_
    rintro e w' ⟨rfl, g, c, hg, s1, s2⟩
    refine ⟨rfl, _, vf, s1, s2, ?_⟩
    intro j hj
    rcases hj with hj | hj | hj
    · exact .inl (.inl hj)
    · simp [Value.ownBlock] at hj
      subst hj
      rcases hg with hg | hg
      · exact .inl (.inr (.inl hg))
      · exact .inr hg
    · exact .inl (.inr (.inr hj))

theorem iid_any (w : World) (a k : Nat) (vs vf : Value) (m : Mod) (s : Slot) (h : Holds w 57 61 3 a vs vf m) (hs : m.slots[k]? = some s) (hk : k < 65536) (hg : s.gen ≤ 1073741824) :
    Calls Try.prog 32 #[.pointer (some ⟨a, 0, none⟩), .int .i64 k] w fun e w' => e = .returned (.int .i64 ((s.gen : Int) * 65536 + k)) ∧ w' = w := by
  have hlt : k < m.slots.length := (List.getElem?_eq_some_iff.1 hs).1
  obtain ⟨g, cap, rfl, hc, hc'⟩ := own_shape h.slots (by omega)
  have c1 := cell_at h.head 1
  have c2 := (h.slots.cellAt (k * 3) (by omega)).trans (cells_at _ _ _ hs).1
  simp at c1
  obtain ⟨n, hn⟩ : ∃ n, m.slots.length = n := ⟨_, rfl⟩
  rw [hn] at c1 hlt hc
  clear h hs hn
  go_enter Try.func32, Try.ntmps32
  go_wp2
  go_ret
  exact ⟨rfl, rfl⟩

theorem ifind_below (w : World) (a : Nat) (id : Int) (hid : id < 0) :
    Calls Try.prog 33 #[.pointer (some ⟨a, 0, none⟩), .int .i64 id] w fun e w' => e = .returned (.pointer none) ∧ ∃ n, w' = w.drewN n := by
  have c := fun w => slot_no id w hid
  go_enter Try.func33, Try.ntmps33
  go_wp2_with (go_at_call 24; (with_reducible refine (c _).mono ?_); rintro e w' ⟨rfl, rfl⟩)
  go_ret
  exact ⟨rfl, 0, rfl⟩
theorem ifind_past (w : World) (a : Nat) (vs vf : Value) (m : Mod) (h : Holds w 57 61 3 a vs vf m) (id : Int) (hid : 0 ≤ id) (hid' : id ≤ 9223372036854775807) (hp : (m.slots.length : Int) ≤ id % 65536) :
    Calls Try.prog 33 #[.pointer (some ⟨a, 0, none⟩), .int .i64 id] w fun e w' => e = .returned (.pointer none) ∧ ∃ n, w' = w.drewN n := by
  have c := fun w => slot_yes id w hid hid'
  obtain ⟨p, cap, rfl⟩ := own_slice h.slots
  have c1 := cell_at h.head 1
  simp at c1
  have h0 := Int.emod_nonneg id (b := 65536) (by decide)
  obtain ⟨n, hn⟩ : ∃ n, m.slots.length = n := ⟨_, rfl⟩
  obtain ⟨k, hk⟩ : ∃ k, id % 65536 = k := ⟨_, rfl⟩
  simp only [hk] at c
  rw [hn, hk] at hp
  rw [hn] at c1
  rw [hk] at h0
  clear h hn hk hid hid'
  go_enter Try.func33, Try.ntmps33
  go_wp2_with (go_at_call 24; (with_reducible refine (c _).mono ?_); rintro e w' ⟨rfl, rfl⟩)
  go_ret
  exact ⟨rfl, 0, rfl⟩
theorem ifind_free (w : World) (a : Nat) (vs vf : Value) (m : Mod) (h : Holds w 57 61 3 a vs vf m) (id : Int) (hid : 0 ≤ id) (hid' : id ≤ 9223372036854775807) (k : Nat) (hk : id % 65536 = k) (s : Slot) (hs : m.slots[k]? = some s) (ht : s.taken = false) :
    Calls Try.prog 33 #[.pointer (some ⟨a, 0, none⟩), .int .i64 id] w fun e w' => e = .returned (.pointer none) ∧ ∃ n, w' = w.drewN n := by
  have c := fun w => slot_yes id w hid hid'
  have hlt : k < m.slots.length := (List.getElem?_eq_some_iff.1 hs).1
  obtain ⟨g, cap, rfl, hc, hc'⟩ := own_shape h.slots (by omega)
  have c1 := cell_at h.head 1
  have c2 := (h.slots.cellAt (k * 3 + 1) (by omega)).trans (cells_at _ _ _ hs).2.1
  simp at c1
  rw [ht] at c2
  have h0 : k < 65536 := by omega
  obtain ⟨n, hn⟩ : ∃ n, m.slots.length = n := ⟨_, rfl⟩
  simp only [hk] at c
  rw [hn] at c1 hlt hc
  clear h hs hn hk
  go_enter Try.func33, Try.ntmps33
  go_wp2_with (go_at_call 24; (with_reducible refine (c _).mono ?_); rintro e w' ⟨rfl, rfl⟩)
  go_quiet (fail)
  go_wp2
  go_ret
  exact ⟨rfl, _, rfl⟩
theorem ifind_held (w : World) (a : Nat) (vf : Value) (m : Mod) (g n cap : Nat) (h : Holds w 57 61 3 a (.slice (some ⟨g, 0, none⟩) n cap) vf m) (id : Int) (hid : 0 ≤ id) (hid' : id ≤ 9223372036854775807) (k : Nat) (hk : id % 65536 = k) (s : Slot) (hs : m.slots[k]? = some s) (ht : s.taken = true) :
    Calls Try.prog 33 #[.pointer (some ⟨a, 0, none⟩), .int .i64 id] w fun e w' => e = .returned (.pointer (if (s.gen : Int) = id / 65536 then some ⟨g, k * 3, none⟩ else none)) ∧ ∃ n, w' = w.drewN n := by
  have c := fun w => slot_yes id w hid hid'
  have d := fun w => gen_yes id w hid hid'
  have hlt : k < m.slots.length := (List.getElem?_eq_some_iff.1 hs).1
  obtain ⟨g', cap', he, hc, hc'⟩ := own_shape h.slots (by omega)
  simp at he
  obtain ⟨rfl, hn, rfl⟩ := he
  have c1 := cell_at h.head 1
  have hso := h.slots
  rw [← hn] at hso
  have c2 := (hso.cellAt (k * 3 + 1) (by omega)).trans (cells_at _ _ _ hs).2.1
  have c3 := (hso.cellAt (k * 3) (by omega)).trans (cells_at _ _ _ hs).1
  simp at c1
  rw [ht] at c2
  have h0 : k < 65536 := by omega
  obtain ⟨q, hq⟩ : ∃ q, id / 65536 = q := ⟨_, rfl⟩
  obtain ⟨r, hr⟩ : ∃ r : Int, (s.gen : Int) = r := ⟨_, rfl⟩
  simp only [hk] at c
  simp only [hq] at d ⊢
  rw [hr] at c3 ⊢
  rw [← hn] at hlt hc
  clear h hso hs hn hk ht hq hr
  by_cases hqr : r = q
  · have hb : (r != q) = false := by simp [hqr]
    rw [if_pos hqr]
    clear hqr
    go_enter Try.func33, Try.ntmps33
    go_wp2_with (go_at_call 24; (with_reducible refine (c _).mono ?_); rintro e w' ⟨rfl, rfl⟩)
    go_quiet (first | (go_at_call 25; (with_reducible refine Calls.quiet_of_same (d _))))
    go_wp2
    go_ret
    exact ⟨rfl, _, rfl⟩
  · have hb : (r != q) = true := by simp [hqr]
    rw [if_neg hqr]
    clear hqr
    go_enter Try.func33, Try.ntmps33
    go_wp2_with (go_at_call 24; (with_reducible refine (c _).mono ?_); rintro e w' ⟨rfl, rfl⟩)
    go_quiet (first | (go_at_call 25; (with_reducible refine Calls.quiet_of_same (d _))))
    go_wp2
    go_ret
    exact ⟨rfl, _, rfl⟩

/-- No slot holds a value under id. -/
theorem ifind_none (w : World) (a : Nat) (vs vf : Value) (m : Mod) (id : Int) (h : Holds w 57 61 3 a vs vf m) (hid' : id ≤ 9223372036854775807) (hf : m.find id = none) :
    Calls Try.prog 33 #[.pointer (some ⟨a, 0, none⟩), .int .i64 id] w fun e w' => e = .returned (.pointer none) ∧ ∃ n, w' = w.drewN n := by
  by_cases hid : id < 0
  · exact ifind_below w a id hid
  · have h0 : 0 ≤ id := by omega
    have h1 := Int.emod_nonneg id (b := 65536) (by decide)
    cases hs : m.slots[(id % 65536).toNat]? with
    | none =>
      rw [List.getElem?_eq_none_iff] at hs
      exact ifind_past w a vs vf m h id h0 hid' (by omega)
    | some s =>
      have hk : id % 65536 = ((id % 65536).toNat : Int) := by omega
      cases ht : s.taken with
      | false => exact ifind_free w a vs vf m h id h0 hid' _ hk s hs ht
      | true =>
        have hlt := (List.getElem?_eq_some_iff.1 hs).1
        obtain ⟨g, cap, rfl, _⟩ := own_shape h.slots (by omega)
        have := ifind_held w a vf m g _ cap h id h0 hid' _ hk s hs ht
        rw [if_neg (Mod.find_none hf h0 hs ht)] at this
        exact this
theorem ifind_some (w : World) (a : Nat) (vf : Value) (m : Mod) (id : Int) (k g n cap : Nat) (h : Holds w 57 61 3 a (.slice (some ⟨g, 0, none⟩) n cap) vf m) (hid' : id ≤ 9223372036854775807) (hf : m.find id = some k) :
    Calls Try.prog 33 #[.pointer (some ⟨a, 0, none⟩), .int .i64 id] w fun e w' => e = .returned (.pointer (some ⟨g, k * 3, none⟩)) ∧ ∃ n, w' = w.drewN n := by
  obtain ⟨h0, hk, s, hs, ht, hg⟩ := Mod.find_some hf
  have := ifind_held w a vf m g n cap h id h0 hid' k hk s hs ht
  rw [if_pos hg] at this
  exact this

end Go.Proofs.Ytfpmbbplgdkogaa
