/-
  What 'same' answers of two rows of the same packets. No conditions but that both can be read.
-/
import Derived.Test.YtcnellkoejhofaaRCancel
import Derived.BigQuiet
namespace Go.Proofs.Ytcnellkoejhofaa
open Go.ChangeShapes Go.WideShapes Go.ChangeAt Go.RowKit

/-- Packets that can be read. -/
def PkRd (w : World) (v : Value) (l : List Pk) : Prop := (∃ p c, v = .slice p l.length c) ∧ ∀ (j : Nat) (t : Pk), l[j]? = some t → ∃ g o c, v = .slice (some ⟨g, o, none⟩) l.length c ∧ w.cell? ⟨g, o + j * 3, none⟩ = some (.int .i64 t.k) ∧ w.cell? ⟨g, o + j * 3 + 1, none⟩ = some (.int .i64 t.s) ∧ w.cell? ⟨g, o + j * 3 + 2, none⟩ = some (.int .i64 t.v)
theorem PkRd.past {w w' : World} {v : Value} {l : List Pk} (h : PkRd w v l) (t : Turn NoBlock w w') : PkRd w' v l :=
  ⟨h.1, fun j p hp => by
    obtain ⟨g, o, c, he, a, b, d⟩ := h.2 j p hp
    exact ⟨g, o, c, he, t.cell a (fun h => h), t.cell b (fun h => h), t.cell d (fun h => h)⟩⟩
theorem PRow.rdp {w : World} {v : Value} {l : List Pk} (h : PRow v l w) : PkRd w v l := by
  refine ⟨WRow.sl h, fun j t ht => ?_⟩
  have hlt := (List.getElem?_eq_some_iff.1 ht).1
  obtain ⟨g, o, cap, rfl, -⟩ := WRow.shape h (by omega)
  obtain ⟨a, b, c⟩ := h.three ht
  exact ⟨g, o, cap, rfl, a, b, c⟩
theorem BRow.rdp {w : World} {v : Value} {l : List Pk} (h : BRow v l w) : PkRd w v l := by
  refine ⟨WRow.sl h, fun j t ht => ?_⟩
  have hlt := (List.getElem?_eq_some_iff.1 ht).1
  obtain ⟨g, o, cap, rfl, -⟩ := WRow.shape h (by omega)
  obtain ⟨a, b, c⟩ := h.three ht
  exact ⟨g, o, cap, rfl, a, b, c⟩
theorem one_rdp {w : World} {g : Nat} {T : TypeId} (p : Pk) (h : w.heap[g]? = some (.cells #[.int .i64 p.k, .int .i64 p.s, .int .i64 p.v] T (0, 0))) : PkRd w (.slice (some ⟨g, 0, none⟩) 1 1) [p] := by
  refine ⟨⟨_, _, rfl⟩, fun j t ht => ?_⟩
  have hj : j = 0 := by have := (List.getElem?_eq_some_iff.1 ht).1; simpa using this
  subst hj
  simp at ht
  subst ht
  exact ⟨g, 0, 1, rfl, cell_at h 0, cell_at h 1, cell_at h 2⟩
set_option maxRecDepth 20000 in
set_option maxHeartbeats 4000000 in
theorem same_any (w : World) (a b : Value) (l : List Pk) (ha : PkRd w a l) (hb : PkRd w b l) (hn : l.length ≤ 1000000) : Calls Try.prog 14 #[a, b] w fun e w' => e = .returned (.bool true) ∧ Turn NoBlock w w' := by
  obtain ⟨pa, ca, hva⟩ := ha.1
  obtain ⟨pb, cb, hvb⟩ := hb.1
  have HA := Lib.hid ha
  have HB := Lib.hid hb
  obtain ⟨n, hne⟩ : ∃ n, l.length = n := ⟨_, rfl⟩
  have HN := Lib.hid hne
  rw [hne] at hva hvb hn
  subst hva hvb
  clear ha hb hne
  go_enter Try.func14, Try.ntmps14
  go_wp2
  go_loopg [13] n (fun z s13 wr => ∃ j : Nat, z = n - j ∧ j ≤ n ∧ s13 = .int .i64 (j : Int) ∧ Hid (Turn NoBlock w wr))
  case atStart => exact ⟨0, rfl, Nat.zero_le _, rfl, Lib.hid (Turn.refl _ _)⟩
  case round =>
    obtain ⟨j, hz, hj, rfl, HT⟩ := hrel
    by_cases hjn : j < n
    · obtain ⟨t, ht⟩ : ∃ t, l[j]? = some t := ⟨_, List.getElem?_eq_getElem (by rw [HN.out]; exact hjn)⟩
      obtain ⟨ga, oa, ca', hea, a0, a1, a2⟩ := (HA.out.past HT.out).2 j t ht
      obtain ⟨gb, ob, cb', heb, b0, b1, b2⟩ := (HB.out.past HT.out).2 j t ht
      rw [HN.out] at hea heb
      simp only [Value.slice.injEq] at hea heb
      obtain ⟨rfl, -, rfl⟩ := hea
      obtain ⟨rfl, -, rfl⟩ := heb
      have hji : (j : Int) < (n : Int) := by omega
      clear ht
      go_wp2
      go_quiet (fail)
      go_wp2
      go_roundg (n - (j + 1))
      case measure => omega
      case rel => exact ⟨j + 1, rfl, by omega, by go_num, Lib.hid (HT.out.drewN _)⟩
    · obtain rfl : j = n := by omega
      go_wp2
      go_ret
      exact ⟨rfl, HT.out⟩
end Go.Proofs.Ytcnellkoejhofaa
