/-
  What Add of a table answers, and what it makes of its places. No conditions but that the table is one that calls can make.
-/
import Derived.Test.YtacdhlhkpdlekaaHTake
namespace Go.Proofs.Ytacdhlhkpdlekaa
open Go.ChangeShapes Go.WideShapes Go.ChangeAt Go.RowKit

def addV (L : List Pl) (d : Int) : Int := if lowOf L < L.length then valS (lowOf L) d else 0
def addS (L : List Pl) : Int := if lowOf L < L.length then 0 else -4
def addL (L : List Pl) (e : Ent) (d : Int) : List Pl := if lowOf L < L.length then L.set (lowOf L) ⟨valS (lowOf L) d, e⟩ else L

theorem nodup_len : ∀ (n : Nat) (l : List Nat), l.Nodup → (∀ x ∈ l, x < n) → l.length ≤ n
  | 0, l, _, h => by
    cases l with
    | nil => simp
    | cons x l => have := h x (by simp); omega
  | n + 1, l, hn, h => by
    by_cases hm : n ∈ l
    · have h1 := nodup_len n (l.erase n) (hn.erase _) (fun x hx => by
        have h2 := h x (List.mem_of_mem_erase hx)
        have h3 : x ≠ n := fun e => by subst e; exact (List.Nodup.not_mem_erase hn) hx
        omega)
      rw [List.length_erase_of_mem hm] at h1
      omega
    · have h1 := nodup_len n l hn (fun x hx => by
        have h2 := h x hx
        have h3 : x ≠ n := fun e => hm (e ▸ hx)
        omega)
      omega

structure Raw where
  items : Nat
  queues : Nat
  Q : Nat → Int
  A : Nat → Nat
  B : Nat → Nat
  C : Nat → Nat

/-- From u over l to v, side by side. -/
def Chain (A B : Nat → Nat) : Nat → List Nat → Nat → Prop
  | u, [], v => B u = v ∧ A v = u
  | u, x :: l, v => B u = x ∧ A x = u ∧ Chain A B x l v

section
variable {w : World} {a cap : Nat} {vs vf : Value} {ps : List Pl} {fr : List Nat}

/-- A place is taken. -/
theorem take_some (h : TMem w a vs vf cap ps fr) (ok : TOK cap ps fr) (hne : ¬ (fr = [] ∧ ps.length = cap)) :
    ∃ k : Nat, k < cap ∧ lowOf (padL cap ps) = k ∧
      Calls Try.prog 41 #[.pointer (some ⟨a, 0, none⟩)] w fun e w' => e = .returned (.tuple #[.int .i64 k, .bool true]) ∧
        ∃ vs1 vf1 ps1 fr1, TMem w' a vs1 vf1 cap ps1 fr1 ∧ Turn (Foot a vs vf) w w' ∧ (∀ j, Foot a vs1 vf1 j → Foot a vs vf j ∨ w.heap.size ≤ j) ∧ k < ps1.length ∧
          ∀ (p : Pl) (d : Int), p.value = valS k d → TOK cap (ps1.set k p) fr1 ∧ padL cap (ps1.set k p) = (padL cap ps).set k p := by
  have hlen := ok.len
  by_cases hf : fr = []
  · subst hf
    have hl : ps.length < cap := by
      have : ¬ ps.length = cap := fun e => hne ⟨rfl, e⟩
      omega
    refine ⟨ps.length, hl, low_new ok hl, (take_new h hl ok.top).mono ?_⟩
    rintro e w' ⟨rfl, g, c, hg, hM, hT⟩
    refine ⟨rfl, _, _, _, _, hM, hT, ?_, by simp, fun p d hp => ⟨ok_new ok hl hp, padL_push p hl⟩⟩
    intro j hj
    rcases hj with hj | hj | hj
    · exact .inl (.inl hj)
    · simp [Value.ownBlock] at hj
      subst hj
      rcases hg with hg | hg
      · exact .inl (.inr (.inl hg))
      · exact .inr hg
    · exact .inl (.inr (.inr hj))
  · have hpos : 0 < fr.length := by
      cases fr with
      | nil => exact absurd rfl hf
      | cons x l => simp
    obtain ⟨h1, h2⟩ := low_freed ok hpos
    obtain ⟨g, c, rfl, hc, hc'⟩ := own_shape h.freed hpos
    obtain ⟨n, hn⟩ : ∃ n, fr.length = n + 1 := ⟨fr.length - 1, by omega⟩
    rw [hn] at h
    have hsz : n ≤ 65537 := by
      have h3 : fr.length ≤ 65537 := by
        have hs : ∀ k ∈ fr, k < ps.length := fun k hk => by
          obtain ⟨p, hp, _⟩ := (ok.free k).1 hk
          exact (List.getElem?_eq_some_iff.1 hp).1
        have h4 := nodup_len ps.length fr ok.once hs
        have := ok.top
        omega
      omega
    refine ⟨fr.getD 0 0, by omega, h1, (take_freed h hsz ok.heap).mono ?_⟩
    rintro e w' ⟨rfl, fr', hM, hP, hI, hT⟩
    rw [hn]
    refine ⟨rfl, _, _, _, _, hM, hT, ?_, h2, fun p d hp => ⟨ok_freed ok hP hI hp, padL_set p h2⟩⟩
    intro j hj
    rcases hj with hj | hj | hj
    · exact .inl (.inl hj)
    · exact .inl (.inr (.inl hj))
    · exact .inl (.inr (.inr (by simpa [Value.ownBlock] using hj)))

theorem add_full (h : TMem w a vs vf cap ps []) (hl : ps.length = cap) (e : Ent) (d : Int) :
    Calls Try.prog 22 #[.pointer (some ⟨a, 0, none⟩), e.agg, .int .i64 d] w fun e w' => e = .returned (.tuple #[.int .i64 0, .int .i64 (-4)]) ∧ Turn NoBlock w w' := by
  have c1 := take_full (h.past ((Turn.refl NoBlock w).alloc (.cells #[.int .i64 e.o, .int .i64 e.k, .int .i64 e.r] 33))) hl
  unfold Ent.agg
  clear h
  go_enter Try.func22, Try.ntmps22
  go_wp2_with (go_at_call 41; (with_reducible refine c1.mono ?_); rintro e w' ⟨rfl, rfl⟩)
  go_ret2
  exact ⟨rfl, (Turn.refl NoBlock w).alloc _⟩

set_option maxRecDepth 20000 in
set_option maxHeartbeats 1000000 in
theorem add_some (h : TMem w a vs vf cap ps fr) (ok : TOK cap ps fr) (hne : ¬ (fr = [] ∧ ps.length = cap)) (e : Ent) (d : Int) :
    ∃ k : Nat, k < cap ∧ lowOf (padL cap ps) = k ∧
      Calls Try.prog 22 #[.pointer (some ⟨a, 0, none⟩), e.agg, .int .i64 d] w fun x w' => x = .returned (.tuple #[.int .i64 (valS k d), .int .i64 0]) ∧
        ∃ F', TableAt w' a F' ((padL cap ps).set k ⟨valS k d, e⟩) ∧ Turn (Foot a vs vf) w w' ∧ (∀ j, F' j → Foot a vs vf j ∨ w.heap.size ≤ j) := by
  have hp := h.past ((Turn.refl NoBlock w).alloc (.cells #[.int .i64 e.o, .int .i64 e.k, .int .i64 e.r] 33))
  obtain ⟨k, hk, hlow, c1⟩ := take_some hp ok hne
  refine ⟨k, hk, hlow, ?_⟩
  have hk' : k < 65536 := by have := ok.top; omega
  have hF : ∀ j, Foot a vs vf j → j < w.heap.size := fun j hj => Foot.lt h hj
  have HF := Lib.hid hF
  have c2 := fun w => value_yes k d w hk'
  unfold Ent.agg
  clear h ok hne hlow hp hF
  go_enter Try.func22, Try.ntmps22
  go_wp2_with (first
    | (go_at_call 41; (with_reducible refine c1.mono ?_); rintro x w1 ⟨rfl, vs1, vf1, ps1, fr1, hM, hT, hsub, hlt, hput⟩)
    | (go_at_call 19; (with_reducible refine (c2 _).mono ?_); rintro x w2 ⟨rfl, rfl⟩))
  obtain ⟨p0, hp0⟩ : ∃ p0, ps1[k]? = some p0 := ⟨_, List.getElem?_eq_getElem hlt⟩
  obtain ⟨g, c, rfl, g1, g2, g3, g4, g5, g6, g7, g8, g9, g10⟩ := hM.place hp0
  have d1 := hM.c1
  have b0 : w1.cell? ⟨w.heap.size, 0, none⟩ = some (.int .i64 e.o) := hT.cell (by simp) (fun hf => by have := HF.out _ hf; simp at this)
  have b1 : w1.cell? ⟨w.heap.size, 1, none⟩ = some (.int .i64 e.k) := hT.cell (by simp) (fun hf => by have := HF.out _ hf; simp at this)
  have b2 : w1.cell? ⟨w.heap.size, 2, none⟩ = some (.int .i64 e.r) := hT.cell (by simp) (fun hf => by have := HF.out _ hf; simp at this)
  have HM := Lib.hid (And.intro (TMem.put ⟨valS k d, e⟩ hM hlt) (And.intro hT hsub))
  have HP := Lib.hid (hput ⟨valS k d, e⟩ d rfl)
  generalize hN : ps1.length = N at *
  generalize hV : valS k d = V at *
  have HV := Lib.hid hV
  clear hM hT hsub hput hp0 hN hV
  go_region
  go_wp2
  go_ret2
  have hVe := HV.out
  subst hVe
  obtain ⟨⟨hM, hT2⟩, hT, hsub⟩ := HM.out
  have hs := hT.size
  refine ⟨rfl, Foot a (.slice (some ⟨g, 0, none⟩) N c) vf1, ⟨_, _, cap, _, fr1, hM.drewN 1, HP.out.1, rfl, HP.out.2.symm⟩, ?_, ?_⟩
  · exact (((Turn.refl (Foot a vs vf) w).alloc _).trans (hT.trans hT2 (fun b hb => by subst hb; exact hsub b (.inr (.inl rfl)))) (fun b hb => .inl hb)).drew
  · intro j hj
    rcases hsub j hj with h1 | h1
    · exact .inl h1
    · right; simp at h1; omega

theorem add_any {F : Nat → Prop} {L : List Pl} (h : TableAt w a F L) (e : Ent) (d : Int) :
    Calls Try.prog 22 #[.pointer (some ⟨a, 0, none⟩), e.agg, .int .i64 d] w fun x w' => x = .returned (.tuple #[.int .i64 (addV L d), .int .i64 (addS L)]) ∧
      ∃ F', TableAt w' a F' (addL L e d) ∧ Turn F w w' ∧ ∀ j, F' j → F j ∨ w.heap.size ≤ j := by
  obtain ⟨vs, vf, cap, ps, fr, hM, ok, rfl, rfl⟩ := h
  have hlen := padL_len (cap := cap) ok.len
  unfold addV addS addL
  rw [hlen]
  by_cases hne : fr = [] ∧ ps.length = cap
  · obtain ⟨rfl, hl⟩ := hne
    have hlow := low_full ok hl
    rw [hlow, if_neg (by omega), if_neg (by omega), if_neg (by omega)]
    refine (add_full hM hl e d).mono ?_
    rintro x w' ⟨rfl, hT⟩
    exact ⟨rfl, _, ⟨_, _, cap, _, _, hM.past hT, ok, rfl, rfl⟩, hT.mono (fun _ h => h.elim), fun j hj => .inl hj⟩
  · obtain ⟨k, hk, hlow, c⟩ := add_some hM ok hne e d
    rw [hlow, if_pos hk, if_pos hk, if_pos hk]
    exact c
end
end Go.Proofs.Ytacdhlhkpdlekaa
