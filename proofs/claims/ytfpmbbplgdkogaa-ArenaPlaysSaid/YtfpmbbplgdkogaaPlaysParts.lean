/-
  Parts of the walk of ArenaPlays: the ways that end ahead of its loop; what stays true of the arena's plain value.
-/
import Derived.Test.YtfpmbbplgdkogaaAwake
import Derived.Test.YtfpmbbplgdkogaaThings
import Derived.Test.YtfpmbbplgdkogaaOwnArena
import Derived.Test.YtfpmbbplgdkogaaIDs
import Derived.Test.YtfpmbbplgdkogaaRefIDs
import Derived.Test.YtfpmbbplgdkogaaRefFree
import Derived.Test.YtfpmbbplgdkogaaTwinModel
import Derived.Test.YtfpmbbplgdkogaaOpArg
import Derived.Test.YtfpmbbplgdkogaaIntsEq
import Derived.Deep.LoopGhost
import Derived.Deep.DeepCutAuto
import Derived.Deep.CutBlock
import Derived.BigQuiet
import Derived.Outline
namespace Go.Proofs.Ytfpmbbplgdkogaa
open Go.ChangeShapes Go.WideShapes Go.ChangeAt Go.RowKit

set_option maxRecDepth 20000 in
theorem plays_none (c : Int) (p : Option Addr) (len cap : Nat) (w : World) (h : c < 0 ∨ 65536 < c) :
    Calls Try.prog 3 #[.int .i64 c, .slice p len cap] w fun e w' => e = .returned (.bool true) ∧ Turn NoBlock w w' := by
  have c1 := fun w => inew_no c w h
  have c2 := awake_any
  rcases h with h | h
  all_goals
    go_enter Try.func3, Try.ntmps3
    go_wp2_with (first | (go_at_call 9; (with_reducible refine (same (c1 _)).mono ?_); rintro e w1 ⟨rfl, rfl⟩) | (go_at_call 10; (with_reducible refine (c2 _).mono ?_); rintro e w2 ⟨rfl, T2⟩; have T2' : Hid (Turn NoBlock _ w2) := T2; clear T2))
    go_ret
    exact ⟨rfl, T2'.out⟩

set_option maxRecDepth 20000 in
theorem plays_past (C : Nat) (p : Option Addr) (len cap : Nat) (w : World) (hC : C ≤ 65536) (h : (200 : Int) < len) :
    Calls Try.prog 3 #[.int .i64 C, .slice p len cap] w fun e w' => e = .returned (.bool true) ∧ Turn NoBlock w w' := by
  have c1 := fun w => inew_yes C w hC
  have c2 := awake_any
  go_enter Try.func3, Try.ntmps3
  go_wp2_with (first | (go_at_call 9; (with_reducible refine (c1 _).mono ?_); rintro e w1 ⟨rfl, F1, A1, T1, L1⟩; have T1' : Hid (Turn NoBlock _ w1) := T1; clear A1 L1 T1) | (go_at_call 10; (with_reducible refine (c2 _).mono ?_); rintro e w2 ⟨rfl, T2⟩; have T2' : Hid (Turn NoBlock _ w2) := T2; clear T2))
  go_ret
  exact ⟨rfl, T1'.out.trans T2'.out (fun k h => .inl h)⟩

/-- What stays true of the arena's plain value, behind t calls. -/
structure Plain (m : Mod) (C t : Nat) : Prop where
  cap : m.cap = C
  gens : ∀ (k : Nat) (s : Slot), m.slots[k]? = some s → s.gen ≤ t
  ints : ∀ (k : Nat) (s : Slot), m.slots[k]? = some s → ∃ x, s.val = .int .i64 x

theorem Plain.later {m : Mod} {C t : Nat} (h : Plain m C t) : Plain m C (t + 1) := ⟨h.cap, fun k s hs => Nat.le_succ_of_le (h.gens k s hs), h.ints⟩

theorem plain_set {l : List Slot} {k : Nat} {s u : Slot} {j : Nat} (h : (l.set k s)[j]? = some u) : u = s ∨ l[j]? = some u := by
  rw [List.getElem?_set] at h
  split at h
  · split at h
    · left; simp at h; exact h.symm
    · simp at h
  · exact .inr h

theorem Plain.alloc {m m' : Mod} {C t : Nat} {v id : Int} (h : Plain m C t) (ok : m.OK) (ha : m.alloc (.int .i64 0) (.int .i64 v) = some (id, m')) : Plain m' C (t + 1) := by
  cases hn : m.take (.int .i64 0) with
  | none => simp [Mod.alloc, hn] at ha
  | some p =>
    obtain ⟨k, m1⟩ := p
    obtain ⟨s, hm⟩ := ok.mid (by rfl) hn
    simp only [Mod.alloc, hn, Option.some.injEq, Prod.mk.injEq, hm.genAt] at ha
    obtain ⟨rfl, rfl⟩ := ha
    have p1 : m1.cap = m.cap ∧ ∀ (j : Nat) (u : Slot), m1.slots[j]? = some u → m.slots[j]? = some u ∨ u = ⟨0, false, .int .i64 0⟩ := by
      rcases Mod.take_cases hn with ⟨init, hf, rfl⟩ | ⟨hf, hne, rfl, rfl⟩
      · exact ⟨rfl, fun j u hu => .inl hu⟩
      · refine ⟨rfl, fun j u hu => ?_⟩
        rw [List.getElem?_append] at hu
        split at hu
        · exact .inl hu
        · rcases Nat.eq_zero_or_pos (j - m.slots.length) with h0 | h0
          · rw [h0] at hu
            simp only [List.getElem?_cons_zero, Option.some.injEq] at hu
            exact .inr hu.symm
          · rw [List.getElem?_cons, if_neg (by omega)] at hu
            simp at hu
    have hs : s.gen ≤ t := by
      rcases p1.2 k s hm.at' with h1 | h1
      · exact h.gens k s h1
      · rw [h1]; simp
    refine ⟨p1.1.trans h.cap, fun j u hu => ?_, fun j u hu => ?_⟩
    · rcases plain_set hu with rfl | hu
      · simp; omega
      · rcases p1.2 j u hu with h1 | h1
        · have := h.gens j u h1; omega
        · rw [h1]; simp
    · rcases plain_set hu with rfl | hu
      · exact ⟨v, rfl⟩
      · rcases p1.2 j u hu with h1 | h1
        · exact h.ints j u h1
        · exact ⟨0, by rw [h1]⟩

theorem Plain.free {m : Mod} {C t k : Nat} {s : Slot} (h : Plain m C t) (hs : m.slots[k]? = some s) : Plain (m.free (.int .i64 0) k) C t := by
  have hga : m.genAt k = s.gen := by simp [Mod.genAt, hs]
  refine ⟨h.cap, fun j u hu => ?_, fun j u hu => ?_⟩
  · rcases plain_set hu with rfl | hu
    · rw [hga]; exact h.gens k s hs
    · exact h.gens j u hu
  · rcases plain_set hu with rfl | hu
    · exact ⟨0, rfl⟩
    · exact h.ints j u hu
theorem Plain.store {m : Mod} {C t k : Nat} {s : Slot} {x : Int} (h : Plain m C t) (hs : m.slots[k]? = some s) : Plain (m.store k (.int .i64 x)) C t := by
  have hga : m.genAt k = s.gen := by simp [Mod.genAt, hs]
  refine ⟨h.cap, fun j u hu => ?_, fun j u hu => ?_⟩
  · rcases plain_set hu with rfl | hu
    · rw [hga]; exact h.gens k s hs
    · exact h.gens j u hu
  · rcases plain_set hu with rfl | hu
    · exact ⟨x, rfl⟩
    · exact h.ints j u hu

theorem ids_len (m : Mod) : m.ids.length = m.count := by
  have key : ∀ k, k ≤ m.slots.length → (idsUpto m.slots k).length = (m.slots.take k).countP (·.taken) := by
    intro k
    induction k with
    | zero => intro _; rfl
    | succ k ih =>
      intro hk
      have h1 := ih (by omega)
      have hs : m.slots[k]? = some (m.slots[k]'(by omega)) := List.getElem?_eq_getElem (by omega)
      have e : m.slots.take (k + 1) = m.slots.take k ++ [m.slots[k]'(by omega)] := by rw [List.take_add_one, hs]; rfl
      cases hb : (m.slots[k]'(by omega)).taken with
      | true => rw [idsUpto_yes _ _ _ hs hb, e, List.countP_append, List.length_append, h1]; simp only [List.countP_cons, List.countP_nil, hb, List.length_cons, List.length_nil]; rfl
      | false => rw [idsUpto_no _ _ _ hs hb, e, List.countP_append, h1]; simp only [List.countP_cons, List.countP_nil, hb]; rfl
  have h1 := key m.slots.length (Nat.le_refl _)
  rw [List.take_length] at h1
  exact h1

/-- A value of the reference's is written over. -/
theorem ref_store {w : World} {r kk : Nat} {G : Nat → Prop} {m : Mod} {s : Slot} (h : Ref w r G m) (hs : m.slots[kk]? = some s) (ht : s.taken = true) :
    ∃ g n c, kk < n ∧ w.cell? ⟨r, 1, none⟩ = some (.slice (some ⟨g, 0, none⟩) n c) ∧ w.cell? ⟨g, kk, none⟩ = some s.val ∧ w.frozen? ⟨g, kk, none⟩ = false ∧
      ∀ x : Int, Ref (w.setCell ⟨g, kk, none⟩ (.int .i64 x)) r G (m.store kk (.int .i64 x)) ∧ Turn G w (w.setCell ⟨g, kk, none⟩ (.int .i64 x)) := by
  obtain ⟨vg, vv, vt, vf, hh, ok, rfl⟩ := h
  obtain ⟨g1, c1, g2, c2, g3, c3, e1, e2, e3, f4, f5, f6, f7, f8, f9, f10, _⟩ := raw_slot hh hs
  subst e1 e2 e3
  have a1 := cell_at hh.head 1
  simp at a1
  refine ⟨g2, _, c2, f4, a1, f6, f9, fun x => ?_⟩
  obtain ⟨r1, r2⟩ := raw_val_set (j := kk) (x := .int .i64 x) hh
  have hga : m.genAt kk = s.gen := by simp [Mod.genAt, hs]
  have e : m.store kk (.int .i64 x) = { m with slots := m.slots.set kk ⟨s.gen, true, .int .i64 x⟩ } := by simp [Mod.store, Mod.put, hga]
  have ok' := ok.store (v := .int .i64 x) rfl hs ht
  rw [e] at ok' ⊢
  have h1 : gensOf (m.slots.set kk ⟨s.gen, true, .int .i64 x⟩) = gensOf m.slots := by rw [gens_set]; exact set_same (by simp [gensOf, hs])
  have h2 : taksOf (m.slots.set kk ⟨s.gen, true, .int .i64 x⟩) = taksOf m.slots := by rw [taks_set]; exact set_same (by simp [taksOf, hs, ht])
  have h3 : valsOf (m.slots.set kk ⟨s.gen, true, .int .i64 x⟩) = (valsOf m.slots).set kk (.int .i64 x) := by rw [vals_set]
  refine ⟨⟨_, _, _, _, by simp only [h1, h2, h3]; exact r1, ok', rfl⟩, r2.mono (fun j hj => .inl (.inr (.inr (.inl (by simp [Value.ownBlock, hj])))))⟩

theorem icap_any (w : World) (a : Nat) (F : Nat → Prop) (m : Mod) (h : iArena w a F m) :
    Calls Try.prog 21 #[.pointer (some ⟨a, 0, none⟩)] w fun e w' => e = .returned (.int .i64 m.cap) ∧ w' = w := by
  obtain ⟨vs, vf, hh, ok, rfl⟩ := h
  have c1 := cell_at hh.head 0
  simp at c1
  clear hh ok
  go_enter Try.func21, Try.ntmps21
  go_wp2
  go_ret
  exact ⟨rfl, rfl⟩

end Go.Proofs.Ytfpmbbplgdkogaa
