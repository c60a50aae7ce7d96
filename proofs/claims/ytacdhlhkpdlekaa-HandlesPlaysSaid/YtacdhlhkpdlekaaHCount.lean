/-
  What Count of a table answers. No conditions but that the table is one that calls can make.
-/
import Derived.Test.YtacdhlhkpdlekaaHIter
namespace Go.Proofs.Ytacdhlhkpdlekaa
open Go.ChangeShapes Go.WideShapes Go.ChangeAt Go.RowKit

theorem range_map (ps : List Pl) : (List.range ps.length).map (fun k => ps.getD k Pl.none) = ps := by
  apply List.ext_getElem
  · simp
  · intro i h1 h2
    simp [List.getD, List.getElem?_eq_getElem h2]
theorem free_count (ps : List Pl) (fr : List Nat) (h : ∀ k, k ∈ fr ↔ ∃ p, ps[k]? = some p ∧ p.value = 0) (hn : fr.Nodup) : fr.length + (takenL ps).length = ps.length := by
  have hp : fr.Perm ((List.range ps.length).filter (fun k => !isTaken (ps.getD k Pl.none))) := by
    rw [List.perm_ext_iff_of_nodup hn ((List.nodup_range).filter _)]
    intro k
    rw [h k, List.mem_filter, List.mem_range]
    constructor
    · rintro ⟨p, hp, h0⟩
      refine ⟨(List.getElem?_eq_some_iff.1 hp).1, ?_⟩
      simp only [List.getD, hp, Option.getD_some]
      simp [isTaken, h0]
    · rintro ⟨hk, h0⟩
      refine ⟨ps[k], List.getElem?_eq_getElem hk, ?_⟩
      simp only [List.getD, List.getElem?_eq_getElem hk, Option.getD_some] at h0
      simpa [isTaken] using h0
  have h1 : ((List.range ps.length).filter (fun k => !isTaken (ps.getD k Pl.none))).length = (ps.filter (fun p => !isTaken p)).length := by
    conv => rhs; rw [← range_map ps]
    rw [List.filter_map, List.length_map]
    rfl
  rw [hp.length_eq, h1]
  unfold takenL
  have h2 := List.length_eq_countP_add_countP isTaken (l := ps)
  rw [← List.countP_eq_length_filter, ← List.countP_eq_length_filter]
  have h3 : List.countP (fun p => !isTaken p) ps = List.countP (fun a => decide ¬isTaken a = true) ps := by
    congr 1
    funext p
    cases isTaken p <;> rfl
  omega
theorem count_any {w : World} {a : Nat} {F : Nat → Prop} {L : List Pl} (h : TableAt w a F L) :
    Calls Try.prog 17 #[.pointer (some ⟨a, 0, none⟩)] w fun e w' => e = .returned (.int .i64 (takenL L).length) ∧ ∃ m, w' = w.drewN m := by
  obtain ⟨vs, vf, cap, ps, fr, hh, ok, rfl, rfl⟩ := h
  rw [taken_pad]
  have e : (takenL ps).length = ps.length - fr.length := by have := free_count ps fr ok.free ok.once; omega
  rw [e]
  exact (callsIn_wide (n := 6)).1 (count_in _ 6 trivial rfl w a cap vs vf ps fr hh (by have := ok.len; have := ok.top; omega) (fr_len ok))
end Go.Proofs.Ytacdhlhkpdlekaa
