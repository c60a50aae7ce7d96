/-
  RegionApart's state: three tables of sixteen numbers beside a region; its calls. No conditions.
-/
import Derived.Test.YtdddmjdlikjedaaGreatGProt
import Derived.Test.YtdddmjdlikjedaaGreatLawPlaces
namespace Go.Proofs.YtdddmjdlikjedaaGreat
open Go.ChangeShapes Go.WideShapes Go.ChangeAt Go.RowKit

section
variable {K K' : Nat → Prop} {W w w' : World} {a : Nat} {size most : Int} {l l' : List Pc}
theorem GT.weak (h : GT K W a size most l w) (hs : ∀ j, K' j → K j) : GT K' W a size most l w := by
  obtain ⟨v, h1, h2⟩ := h.mem
  exact ⟨h.ok, ⟨v, h1, fun j hj => ⟨(h2 j hj).1, fun e => (h2 j hj).2 (hs j e)⟩⟩, fun j hj => h.kb j (hs j hj), h.turn⟩
/-- What was allocated since is left alone, too. -/
theorem GT.since (h : GT K W a size most l w) (t : Turn NoBlock w w') : GT (fun j => K j ∨ (w.heap.size ≤ j ∧ j < w'.heap.size)) W a size most l w' := by
  obtain ⟨v, h1, h2⟩ := h.mem
  refine ⟨h.ok, ⟨v, h1.past t, fun j hj => ⟨(h2 j hj).1, fun e => ?_⟩⟩, fun j hj => ?_, h.turn.trans t (fun _ h => .inl h)⟩
  · have := h1.lt hj
    rcases e with e | e
    · exact (h2 j hj).2 e
    · omega
  · rcases hj with hj | hj
    · exact Nat.lt_of_lt_of_le (h.kb j hj) t.size
    · exact hj.2
theorem GT.list (h : GT K W a size most l w) (hs : size ≤ 65536) :
    Calls Tryz.prog 24 #[.pointer (some ⟨a, 0, none⟩)] w fun e w' => ∃ v', e = .returned v' ∧ PRow v' l w' ∧ (∀ j, Blk v' j → w.heap.size ≤ j) ∧ Turn NoBlock w w' := by
  obtain ⟨v, h1, h2⟩ := h.mem
  have := gok_len h.ok
  exact list_all h1 (by omega)
/-- What Protect makes of a region's pieces. -/
def ProtV (l : List Pc) (x n pr : Int) (l' : List Pc) : Prop := ∀ y t, Vw l' y t ↔ (¬ (x ≤ y ∧ y < x + n) ∧ Vw l y t) ∨ ((x ≤ y ∧ y < x + n) ∧ ∃ u, Vw l y u ∧ t = (u.1, u.2.1, pr))
theorem protL_len (l : List Pc) (k b : Nat) (x n pr : Int) : (protL l k b x n pr).length ≤ 3 * l.length := by
  unfold protL insL
  have h1 := outL_len l k b x n
  have h2 : (seg l k b).length ≤ l.length := by unfold seg; rw [List.length_drop, List.length_take]; omega
  rw [List.length_append, List.length_map, List.length_map]
  omega
end

/-- A table of sixteen numbers at block b. -/
def tabC (T : Nat → Int) : List Value := (List.range 16).map (fun i => .int .i64 (T i))
theorem tabC_at (T : Nat → Int) {i : Nat} (hi : i < 16) : (tabC T)[i]? = some (.int .i64 (T i)) := by
  unfold tabC
  rw [List.getElem?_map, List.getElem?_range hi]
  rfl
/-- One place more. -/
theorem updR_step {V : Nat → Int} {a m : Nat} {f : Nat → Int} (i : Nat) : (if i = a + m then f (a + m) else updR V a m f i) = updR V a (m + 1) f i := by
  unfold updR
  by_cases h : i = a + m
  · subst h
    rw [if_pos rfl, if_pos (by omega)]
  · rw [if_neg h]
    by_cases h2 : a ≤ i ∧ i < a + m
    · rw [if_pos h2, if_pos (by omega)]
    · rw [if_neg h2, if_neg (by omega)]
theorem updR_zero {V : Nat → Int} {a : Nat} {f : Nat → Int} (i : Nat) : updR V a 0 f i = V i := by
  unfold updR
  rw [if_neg (by omega)]
theorem updR_far {V : Nat → Int} {a m : Nat} {f : Nat → Int} {i : Nat} (h : ¬ (a ≤ i ∧ i < a + m)) : updR V a m f i = V i := by
  unfold updR
  rw [if_neg h]
theorem wrap_ne {v : Int} (hf : fit v) (h : v ≠ -1) : IntKind.i64.wrap (v + 1) ≠ 0 := by
  unfold fit at hf
  by_cases e : v = 9223372036854775807
  · subst e; decide
  · rw [wrap_fit (by unfold fit; omega)]
    omega
end Go.Proofs.YtdddmjdlikjedaaGreat
