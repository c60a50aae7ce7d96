/-
  Two lists of integers are held against each other. No conditions but that they can be read.
-/
import Derived.Test.YtcbphfpfdfgehaaTAwake
import Derived.Deep.LoopGhost
namespace Go.Proofs.Ytcbphfpfdfgehaa
open Go.ChangeShapes Go.WideShapes Go.ChangeAt Go.RowKit

theorem nums_two {w : World} {v : Value} {zs : List Int} (h : Nums v zs w) : ∃ p c, v = .slice p zs.length c ∧ (0 < zs.length → ∃ g o, p = some ⟨g, o, none⟩ ∧ ∀ j x, zs[j]? = some x → w.cell? ⟨g, o + j, none⟩ = some (.int .i64 x)) := by
  obtain ⟨p, c, rfl⟩ := WRow.sl h
  refine ⟨p, c, rfl, fun h0 => ?_⟩
  obtain ⟨g', o', c', he, -, -, -, hc, -⟩ := WRow.shape h h0
  simp only [Value.slice.injEq] at he
  obtain ⟨rfl, -, -⟩ := he
  refine ⟨g', o', rfl, fun j x hx => ?_⟩
  have hi := (List.getElem?_eq_some_iff.1 hx).1
  rw [hc j (by omega)]
  unfold icells
  rw [List.getElem?_map, hx]
  rfl
set_option maxRecDepth 20000 in
set_option maxHeartbeats 1000000 in
theorem ints_eq (w : World) (va vb : Value) (zs : List Int) (hn : zs.length ≤ 1000000000) (ha : Nums va zs w) (hb : Nums vb zs w) :
    Calls Try.prog 30 #[va, vb] w fun e w' => e = .returned (.bool true) ∧ Turn NoBlock w w' := by
  obtain ⟨pa, ca, rfl, fa⟩ := nums_two ha
  obtain ⟨pb, cb, rfl, fb⟩ := nums_two hb
  have FA := Lib.hid fa
  have FB := Lib.hid fb
  have HZ := Lib.hid (fun j (hj : j < zs.length) => show ∃ x, zs[j]? = some x from ⟨_, List.getElem?_eq_getElem hj⟩)
  generalize zs.length = n at *
  clear fa fb ha hb
  go_enter Try.func30, Try.ntmps30
  go_wp2_with fail
  go_loopg [13] n (fun g s13 wr => ∃ k : Nat, k ≤ n ∧ g = n - k ∧ s13 = .int .i64 k ∧ Hid (Turn NoBlock w wr))
  case atStart => exact ⟨0, by omega, by omega, rfl, Lib.hid (Turn.refl _ _)⟩
  case round =>
    obtain ⟨k, hk, hg, rfl, HT⟩ := hrel
    by_cases hlt : k < n
    · obtain ⟨ga, oa, rfl, hca⟩ := FA.out (by omega)
      obtain ⟨gb, ob, rfl, hcb⟩ := FB.out (by omega)
      obtain ⟨x, hx⟩ := HZ.out k hlt
      have d1 := HT.out.cell (hca k x hx) (fun h => h)
      have d2 := HT.out.cell (hcb k x hx) (fun h => h)
      clear hca hcb hx
      go_wp2_with fail
      go_quiet (fail)
      go_wp2
      go_roundg (n - (k + 1))
      case measure => omega
      case rel => exact ⟨k + 1, by omega, by omega, by go_num, Lib.hid (TT HT.out ((Turn.refl NoBlock wr).drewN _))⟩
    · obtain rfl : k = n := by omega
      go_wp2
      go_ret
      exact ⟨rfl, HT.out⟩
end Go.Proofs.Ytcbphfpfdfgehaa
