/-
  behind: the object whose pages stand behind a slice. No conditions but that a slice's parent is there.
-/
import Derived.Test.YtdhbhigoboamfaaVSmall
namespace Go.Proofs.Ytdhbhigoboamfaa
open Go.ChangeShapes Go.WideShapes Go.ChangeAt Go.RowKit

/-- What calls can make of parents, depths and places. -/
structure Chain (O : Int → Option Ob) : Prop where
  up : ∀ i o, O i = some o → 0 < o.depth → ∃ q, O (o.par : Int) = some q ∧ q.depth + 1 = o.depth
  small : ∀ i o, O i = some o → o.size ≤ 4294967296 ∧ o.frm ≤ 4294967296 ∧ o.depth ≤ 16
  pgs : ∀ i o, O i = some o → 0 < o.depth → o.pgs = fun _ => none

def rootI (O : Int → Option Ob) : Nat → Int → Int → Int × Int
  | 0, i, t => (i, t)
  | d + 1, i, t => match O i with | none => (i, t) | some o => rootI O d (o.par : Int) (t + (o.frm : Int))

theorem rootI_succ {O : Int → Option Ob} {d : Nat} {i t : Int} {o : Ob} (h : O i = some o) : rootI O (d + 1) i t = rootI O d (o.par : Int) (t + (o.frm : Int)) := by
  show (match O i with | none => (i, t) | some o => rootI O d (o.par : Int) (t + (o.frm : Int))) = _
  rw [h]

section
variable {w : World} {s : Nat} {r : Rep} {M : Mod}
set_option maxRecDepth 20000 in
theorem behind_any (h : SMem w s r M) (hc : Chain M.O) (hmd : M.made < 4611686018427387904) {i0 : Int} {o0 : Ob} {a0 : Nat} (hO0 : M.O i0 = some o0) (hA0 : r.A i0 = some a0) (t0 : Int) (ht0 : 0 ≤ t0) (ht1 : t0 + o0.depth * 4294967296 ≤ 4611686018427387904) :
    Calls Try.prog 51 #[.pointer (some ⟨s, 0, none⟩), .pointer (some ⟨a0, 0, none⟩), .int .i64 t0] w fun e w' => ∃ j o a, M.O j = some o ∧ r.A j = some a ∧ o.depth = 0 ∧ (rootI M.O o0.depth i0 t0).1 = j ∧
      e = .returned (.tuple #[.pointer (some ⟨a, 0, none⟩), .int .i64 (rootI M.O o0.depth i0 t0).2]) ∧ ∃ m, w' = w.drewN m := by
  have H := Lib.hid (And.intro h hc)
  have H0 := Lib.hid (And.intro hO0 (And.intro hA0 (And.intro ht0 ht1)))
  have d3 : w.cell? ⟨s, 3, none⟩ = some (.map (some r.mo)) := h.c3
  have Hmd := Lib.hid hmd
  clear h hc hmd hO0 hA0 ht0 ht1
  generalize hR : rootI M.O o0.depth i0 t0 = R at *
  have HR := Lib.hid hR
  clear hR
  go_enter Try.func51, Try.ntmps51
  go_wp2_with fail
  go_loopg [1, 2] o0.depth (fun g s1 s2 wr => ∃ (i : Int) (o : Ob) (a : Nat) (t : Int) (m : Nat), g = o.depth ∧ s1 = .pointer (some ⟨a, 0, none⟩) ∧ s2 = .int .i64 t ∧ wr = w.drewN m ∧ Hid (M.O i = some o ∧ r.A i = some a ∧ rootI M.O o.depth i t = R ∧ 0 ≤ t ∧ t + o.depth * 4294967296 ≤ 4611686018427387904))
  case atStart => exact ⟨i0, o0, a0, t0, 0, rfl, rfl, rfl, rfl, H0.out.1, H0.out.2.1, HR.out, H0.out.2.2.1, H0.out.2.2.2⟩
  case round =>
    obtain ⟨i, o, a, t, m, hg, rfl, rfl, rfl, HA⟩ := hrel
    obtain ⟨hO, hA, hR, ht0, ht1⟩ := HA.out
    obtain ⟨a', pb, hA', hB, hcell, hp⟩ := H.out.1.live hO
    rw [hA] at hA'
    cases hA'
    have g := ocells hcell
    have d4 : w.cell? ⟨a, 4, none⟩ = some (.int .i64 (o.depth : Int)) := g.c4
    by_cases hd : 0 < o.depth
    · obtain ⟨q, hq, hqd⟩ := H.out.2.up i o hO hd
      obtain ⟨b, pb', hA2, -, -, -⟩ := H.out.1.live hq
      have d5 : w.cell? ⟨a, 5, none⟩ = some (.int .i64 (o.frm : Int)) := g.c5
      have d1 : w.cell? ⟨a, 1, none⟩ = some (.int .i64 (o.par : Int)) := g.c1
      have hfit : fit (o.par : Int) := by
        have := H.out.1.ids _ _ hA2
        have := Hmd.out
        unfold fit
        omega
      have l1 := (H.out.1.past ((Turn.refl NoBlock w).drewN (m + 1))).omap.look (o.par : Int) hfit
      rw [hA2] at l1
      unfold ptrOf at l1
      have hfr := (H.out.2.small i o hO).2.1
      have hroot := hR
      rw [← hqd, rootI_succ hO] at hroot
      have hd2 : (0 : Int) < (o.depth : Int) := by omega
      have hsum : IntKind.i64.wrap (t + (o.frm : Int)) = t + (o.frm : Int) := by
        obtain ⟨n, rfl⟩ : ∃ n : Nat, t = n := ⟨t.toNat, by omega⟩
        exact wrap_nat (n + o.frm) (by omega)
      have HX := Lib.hid (And.intro hq (And.intro hA2 (And.intro hroot (And.intro hqd (And.intro hfr (And.intro ht0 ht1))))))
      clear hO hA hR ht0 ht1 hq hA2 hroot hfr hfit hB hcell hp g HA
      go_wp2
      go_region
      all_goals
        go_wp2
        go_roundg q.depth
        case measure => have := HX.out.2.2.2.1; omega
        case rel => exact ⟨(o.par : Int), q, b, t + (o.frm : Int), m + 1, rfl, rfl, rfl, rfl, HX.out.1, HX.out.2.1, HX.out.2.2.1, by have := HX.out.2.2.2.2; omega, by have := HX.out.2.2.2.2; have := HX.out.2.2.2.1; omega⟩
    · have h0 : o.depth = 0 := by omega
      rw [h0] at d4 hR
      have HX := Lib.hid (And.intro hO (And.intro hA (And.intro h0 hR)))
      clear hO hA hR ht0 ht1 hB hcell hp g HA
      go_wp2
      go_ret2
      obtain ⟨k1, k2, k3, k4⟩ := HX.out
      rw [← k4]
      exact ⟨i, o, a, k1, k2, k3, rfl, rfl, m, rfl⟩
end
end Go.Proofs.Ytdhbhigoboamfaa
