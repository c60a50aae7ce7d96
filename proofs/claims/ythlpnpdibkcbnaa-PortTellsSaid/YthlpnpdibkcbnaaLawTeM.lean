/-
  PortTells' state: the watches of the object and of the one behind it, and the numbers of those that will fire. No walk, no conditions.
-/
import Derived.Test.YthlpnpdibkcbnaaLawRM
namespace Go.Proofs.Ythlpnpdibkcbnaa
open Go.ChangeShapes Go.WideShapes Go.ChangeAt Go.RowKit

def keyed (xs : List Int) (o s : Int) : List Pk := xs.map (fun k => ⟨k, o, s⟩)
/-- The watches so far: those of o that meet s have the keys xs. -/
structure TW (o s : Int) (i : Nat) (Ws : List Wc) (xs : List Int) : Prop where
  keys : packs (ofO Ws o) o s = keyed xs o s
  len : Ws.length ≤ 2 * i
  xlen : xs.length ≤ i
theorem bits_zero (s : Int) : bits .and .i64 0 s = 0 := by
  unfold bits
  simp
  rfl
theorem meet_zero (s : Int) : meetB 0 s = false := by unfold meetB; rw [bits_zero]; rfl
theorem tw_nil (o s : Int) : TW o s 0 [] [] := ⟨rfl, Nat.le_refl _, Nat.le_refl _⟩
section
variable {o s m : Int} {i : Nat} {Ws : List Wc} {xs : List Int}
/-- One mask more, and one watch of the object behind. -/
theorem TW.step (h : TW o s i Ws xs) : TW o s (i + 1) (Ws ++ [⟨o, (i : Int), m⟩] ++ [⟨o + 1, (i : Int), 1⟩]) (xs ++ if meetB m s = true then [(i : Int)] else []) := by
  have h1 := h.len
  have h2 := h.xlen
  refine ⟨?_, by simp; omega, by cases meetB m s <;> simp <;> omega⟩
  rw [ofO_push, if_neg (by show ¬ o + 1 = o; omega), ofO_push, if_pos rfl, packs_add, h.keys]
  unfold keyed
  cases meetB m s <;> simp
theorem TW.skip (h : TW o s i Ws xs) : TW o s (i + 1) (Ws ++ [⟨o + 1, (i : Int), 1⟩]) xs := by
  have h1 := h.len
  have h2 := h.xlen
  refine ⟨?_, by simp; omega, by omega⟩
  rw [ofO_push, if_neg (by show ¬ o + 1 = o; omega), h.keys]
theorem TW.count (h : TW o s i Ws xs) : telN Ws o s = xs.length := by rw [telN_eq, h.keys]; simp [keyed]
theorem TW.again (o s : Int) (Ws : List Wc) : telN (telL Ws o s) o s = 0 := by
  unfold telN goneN telL
  rw [ofO_drop, if_pos rfl, List.filter_filter]
  simp
theorem others (o s : Int) (Ws : List Wc) : ofO (telL Ws o s) (o + 1) = ofO Ws (o + 1) := by
  unfold telL
  rw [ofO_drop, if_neg (by omega)]
end
section
variable {w0 w w' : World} {c : Nat} {o s m : Int} {i : Nat} {Ws : List Wc} {v : Value} {xs : List Int}
theorem te_refuse (h : RR w0 w c 1 100 [] Ws v xs NoBlock) (k : Int) (ho : fit o) : Calls Try.prog 15 #[.pointer (some ⟨c, 0, none⟩), .int .i64 o, .int .i64 k, .int .i64 0] w fun x w' => x = .returned (.int .i64 (-10)) ∧ RR w0 w' c 1 100 [] Ws v xs NoBlock := by
  have := h.watch o k 0 ho
  have e : watS 100 [] Ws o 0 = -10 := by unfold watS; rw [if_pos (.inr rfl)]
  unfold watL at this
  rw [e, if_neg (by omega)] at this
  exact this.mono (fun _ _ hh => ⟨hh.1, hh.2.1⟩)
theorem te_watch (h : RR w0 w c 1 100 [] Ws v xs NoBlock) (k : Int) (ho : fit o) (h1 : 1 ≤ o) (hm : m ≠ 0) (hl : Ws.length < 100) : Calls Try.prog 15 #[.pointer (some ⟨c, 0, none⟩), .int .i64 o, .int .i64 k, .int .i64 m] w fun x w' => x = .returned (.int .i64 0) ∧ RR w0 w' c 1 100 [] (Ws ++ [⟨o, k, m⟩]) v xs NoBlock := by
  have := h.watch o k m ho
  have e : watS 100 [] Ws o m = 0 := by
    unfold watS
    rw [if_neg (by rintro (h2 | h2); omega; exact hm h2), if_neg]
    show ¬ (Ws.length : Int) + (0 - 0) = 100
    omega
  unfold watL at this
  rw [e, if_pos rfl] at this
  exact this.mono (fun _ _ hh => ⟨hh.1, hh.2.1⟩)
theorem te_tell (h : RR w0 w c 1 100 [] Ws v xs NoBlock) (hT : TW o s i Ws xs) (ho : fit o) : Calls Try.prog 17 #[.pointer (some ⟨c, 0, none⟩), .int .i64 o, .int .i64 s] w fun x w' => x = .returned (.int .i64 (xs.length : Int)) ∧ RR w0 w' c 1 100 (keyed xs o s) (telL Ws o s) v xs NoBlock := by
  have := h.tell o s ho
  rw [hT.count, hT.keys, List.nil_append] at this
  exact this.mono (fun _ _ hh => ⟨hh.1, hh.2.1⟩)
theorem te_again {Q : List Pk} (h : PSt w0 w c 1 100 Q (telL Ws o s) NoBlock) (ho : fit o) : Calls Try.prog 17 #[.pointer (some ⟨c, 0, none⟩), .int .i64 o, .int .i64 s] w fun x w' => x = .returned (.int .i64 0) ∧ Turn NoBlock w0 w' := by
  have := h.tell o s ho
  rw [TW.again] at this
  exact this.mono (fun _ _ hh => ⟨hh.1, hh.2.1.turn⟩)
theorem te_others {Q : List Pk} (h : RR w0 w c 1 100 Q (telL Ws o s) v xs NoBlock) (ho : fit (o + 1)) : Calls Try.prog 26 #[.pointer (some ⟨c, 0, none⟩), .int .i64 (o + 1)] w fun x w' => x = .returned (.int .i64 ((ofO Ws (o + 1)).length : Int)) ∧ w = w' := by
  have := h.st.watched (o + 1) ho
  rw [others] at this
  exact this
theorem te_len (h : RR w0 w c 1 100 (keyed xs o s) (telL Ws o s) v xs NoBlock) : Calls Try.prog 24 #[.pointer (some ⟨c, 0, none⟩)] w fun x w' => x = .returned (.int .i64 (xs.length : Int)) ∧ w = w' := by
  have := h.st.len
  rw [show (keyed xs o s).length = xs.length by simp [keyed]] at this
  exact this
end
end Go.Proofs.Ythlpnpdibkcbnaa
