/-
  lacking: how many frames are needed. No conditions but that the set is one that calls can make.
-/
import Derived.Test.YtdhbhigoboamfaaVParts
namespace Go.Proofs.Ytdhbhigoboamfaa
open Go.ChangeShapes Go.WideShapes Go.ChangeAt Go.RowKit

/-- Frames, and which of them an object's pages have. -/
structure PL where
  L : List Pg
  g : Int → Option Int
  c : Nat
def lacks (S : PL) (p : Nat) : Bool := match S.g (p : Int) with | none => true | some f => decide (1 < usersL S.L f)
def lackN (S : PL) (ps : List Pt) : Nat := (ps.filter (fun p => lacks S p.pg)).length
theorem lacks_none {S : PL} {p : Nat} (h : S.g (p : Int) = none) : lacks S p = true := by unfold lacks; rw [h]
theorem lacks_some {S : PL} {p : Nat} {f : Int} (h : S.g (p : Int) = some f) : lacks S p = decide (1 < usersL S.L f) := by unfold lacks; rw [h]
theorem lackN_succ (S : PL) (ps : List Pt) (k : Nat) (p : Pt) (hk : ps[k]? = some p) : lackN S (ps.take (k + 1)) = lackN S (ps.take k) + if lacks S p.pg then 1 else 0 := by
  obtain ⟨hlt, he⟩ := List.getElem?_eq_some_iff.1 hk
  unfold lackN
  rw [List.take_succ_eq_append_getElem hlt, List.filter_append, List.length_append, he]
  by_cases h : lacks S p.pg = true
  · rw [if_pos h]; simp [h]
  · rw [if_neg h]; simp [h]
theorem lackN_le (S : PL) (ps : List Pt) : lackN S ps ≤ ps.length := List.length_filter_le _ _

section
variable {w : World} {s : Nat} {r : Rep} {M : Mod}
set_option maxRecDepth 20000 in
set_option maxHeartbeats 2000000 in
theorem lacking_any (h : SMem w s r M) {i : Int} {o : Ob} {a pb : Nat} (hO : M.O i = some o) (hA : r.A i = some a) (hB : r.B i = some pb) {v : Value} {ps : List Pt} (hv : Parts v ps w) (hps : ps.length ≤ 4096) (hpg : ∀ p ∈ ps, p.pg ≤ 4611686018427387904) :
    Calls Try.prog 67 #[.pointer (some ⟨s, 0, none⟩), .pointer (some ⟨a, 0, none⟩), v] w fun e w' => e = .returned (.int .i64 (lackN ⟨M.L, o.pgs, o.cnt⟩ ps : Nat)) ∧ Turn NoBlock w w' := by
  obtain ⟨gp, cap, rfl⟩ := hv.shape
  have H := Lib.hid (And.intro h (And.intro hO (And.intro hA (And.intro hB hv))))
  have HP := Lib.hid (And.intro hps hpg)
  obtain ⟨N, hN⟩ : ∃ N, ps.length = N := ⟨_, rfl⟩
  rw [hN]
  have HN := Lib.hid hN
  clear h hO hA hB hv hps hpg hN
  go_enter Try.func67, Try.ntmps67
  go_wp2_with fail
  go_loopg [7, 14] N (fun g s7 s14 wr => ∃ (k : Nat), g = N - k ∧ k ≤ N ∧ s7 = .int .i64 (lackN ⟨M.L, o.pgs, o.cnt⟩ (ps.take k) : Nat) ∧ s14 = .int .i64 k ∧ Hid (Turn NoBlock w wr))
  case atStart => exact ⟨0, rfl, by omega, by simp [lackN], rfl, Turn.refl _ _⟩
  case round =>
    obtain ⟨k, hg, hk, rfl, rfl, HT⟩ := hrel
    by_cases hlt : k < N
    · obtain ⟨h0, hO, hA, hB, hv⟩ := H.out
      have h1 := h0.past HT.out
      obtain ⟨p, hp⟩ : ∃ p, ps[k]? = some p := ⟨_, List.getElem?_eq_getElem (by rw [HN.out]; exact hlt)⟩
      obtain ⟨gb, cb, he, hkl, e0, e1, e2⟩ := (hv.past HT.out (fun _ _ h => h)).at hp
      simp only [Value.slice.injEq] at he
      obtain ⟨rfl, -, rfl⟩ := he
      have hpg := HP.out.2 p (List.mem_of_getElem? hp)
      have hsucc := lackN_succ ⟨M.L, o.pgs, o.cnt⟩ ps k p hp
      have hle := lackN_le ⟨M.L, o.pgs, o.cnt⟩ (ps.take k)
      rw [List.length_take] at hle
      obtain ⟨x, xt, hx1, hx2, hx3, hx4⟩ := h1.live hO
      rw [hA] at hx1
      rw [hB] at hx2
      cases hx1
      cases hx2
      have g := ocells hx3
      have d7 := g.c7
      have halt := lt_of_block hx3
      have d0 := h1.c0
      have hslt := h1.lt (.inl rfl)
      have hfit : fit (p.pg : Int) := by unfold fit; omega
      have ta : ∀ ob, Turn NoBlock wr (wr.alloc ob) := fun ob => (Turn.refl NoBlock wr).alloc ob
      have lk := fun ob => PMap.look (IMap.past hx4 (ta ob) (fun h => h)) (p.pg : Int) hfit
      have lkd := fun ob => PMap.look (IMap.past hx4 (ta ob).drew (fun h => h)) (p.pg : Int) hfit
      have HU := Lib.hid (fun ob f => users_any ((h1.past (ta ob).drew).pool) f)
      have HTn := Lib.hid (fun ob => HT.out.trans (ta ob).drew (fun _ h => .inl h))
      have hfr : (wr.frozen? ⟨gb, k * 3, none⟩) = (wr.frozen? ⟨gb, k * 3, none⟩) := rfl
      have hN4 := HP.out.1
      rw [HN.out] at hN4
      have hklI : (k : Int) < (N : Int) := by omega
      have HS := Lib.hid hsucc
      clear h0 h1 hO hA hB hv hp hpg hx3 hx4 g ta hfit hfr hkl hsucc
      generalize lackN ⟨M.L, o.pgs, o.cnt⟩ (ps.take k) = q at *
      obtain ⟨pg, pat, pn⟩ := p
      simp only at e0 e1 e2 lk lkd HS
      cases hgp : o.pgs (pg : Int) with
      | none =>
        have HL := Lib.hid (lacks_none (S := ⟨M.L, o.pgs, o.cnt⟩) hgp)
        rw [hgp] at lk lkd
        simp only [Option.getD_none, Option.isSome_none] at lk lkd
        go_wp2
        go_region
        all_goals
          go_wp2
          go_roundg (N - (k + 1))
          case measure => omega
          case rel => exact ⟨k + 1, rfl, by omega, by rw [HS.out, HL.out, if_pos rfl]; go_num, by go_num, HTn.out _⟩
      | some f =>
        have hl := lacks_some (S := ⟨M.L, o.pgs, o.cnt⟩) hgp
        rw [hgp] at lk lkd
        simp only [Option.getD_some, Option.isSome_some] at lk lkd
        by_cases hu : 1 < usersL M.L f
        · have hu2 : (1 : Int) < (usersL M.L f : Int) := by omega
          have HL := Lib.hid (hl.trans (decide_eq_true hu))
          clear hu hl
          go_wp2
          go_region
          all_goals
            go_wp2_with (go_at_call 43; (with_reducible refine (HU.out _ f).mono ?_); rintro e w5 ⟨rfl, rfl⟩)
            go_roundg (N - (k + 1))
            case measure => omega
            case rel => exact ⟨k + 1, rfl, by omega, by rw [HS.out, HL.out, if_pos rfl]; go_num, by go_num, HTn.out _⟩
        · have hu2 : ¬ (1 : Int) < (usersL M.L f : Int) := by omega
          have HL := Lib.hid (hl.trans (decide_eq_false hu))
          clear hu hl
          go_wp2
          go_region
          all_goals
            go_wp2_with (go_at_call 43; (with_reducible refine (HU.out _ f).mono ?_); rintro e w5 ⟨rfl, rfl⟩)
            go_roundg (N - (k + 1))
            case measure => omega
            case rel => exact ⟨k + 1, rfl, by omega, by rw [HS.out, HL.out, if_neg (by decide)]; rfl, by go_num, HTn.out _⟩
    · obtain rfl : k = N := by omega
      go_wp2
      go_ret
      exact ⟨ret_int (by rw [List.take_of_length_le (Nat.le_of_eq HN.out)]), HT.out⟩
end
end Go.Proofs.Ytdhbhigoboamfaa
