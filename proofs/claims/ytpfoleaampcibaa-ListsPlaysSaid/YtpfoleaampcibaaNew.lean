/-
  What New answers: nil, or lists with empty queues, in memory of their own. No conditions.
-/
import Derived.Test.YtpfoleaampcibaaSmall
import Derived.Test.YtpfoleaampcibaaSays
import Derived.Deep.LoopGhost
import Derived.Deep.DeepCutAuto
import Derived.Laws.MakeOwn
import Derived.RegionTactic
import Derived.ChangeAlike
import Derived.BigRegion
import Derived.IntWalk
namespace Go.Proofs.Ytpfoleaampcibaa
open Go.ChangeShapes Go.WideShapes Go.ChangeAt Go.RowKit

theorem new_no (q n : Int) (w : World) (h : q < 0 ∨ 65536 < q ∨ n < 0 ∨ 65536 < n) :
    Calls Try.prog 8 #[.int .i64 q, .int .i64 n] w fun e w' => e = .returned (.pointer none) ∧ w = w' := by
  by_cases hqn : q < n
  · by_cases hl : q < 0
    · clear h
      go_enter Try.func8, Try.ntmps8
      go_wp2
      all_goals
        go_ret
        exact ⟨rfl, rfl⟩
    · have h0 : 0 ≤ q := by omega
      have h1 : 65536 < n := by omega
      clear h hl
      go_enter Try.func8, Try.ntmps8
      go_wp2
      all_goals
        go_ret
        exact ⟨rfl, rfl⟩
  · have hqn' : n ≤ q := by omega
    clear hqn
    by_cases hl : n < 0
    · clear h
      go_enter Try.func8, Try.ntmps8
      go_wp2
      all_goals
        go_ret
        exact ⟨rfl, rfl⟩
    · have h0 : 0 ≤ n := by omega
      have h1 : 65536 < q := by omega
      clear h hl
      go_enter Try.func8, Try.ntmps8
      go_wp2
      all_goals
        go_ret
        exact ⟨rfl, rfl⟩

/-- Behind i items and j queues. -/
def rawAt (n k i j : Nat) : Raw := ⟨n, k, fun x => if x < i then -1 else 0, fun x => if n ≤ x ∧ x < n + j then x else 0, fun x => if n ≤ x ∧ x < n + j then x else 0, fun _ => 0⟩
theorem rawAt_item (n k i : Nat) : { rawAt n k i 0 with Q := upd (rawAt n k i 0).Q i (-1) } = rawAt n k (i + 1) 0 := by
  unfold rawAt
  rw [Raw.mk.injEq]
  refine ⟨rfl, rfl, ?_, rfl, rfl, rfl⟩
  funext x
  unfold upd
  dsimp only
  by_cases hx : x = i
  · rw [if_pos hx, if_pos (by omega)]
  · rw [if_neg hx]
    by_cases hy : x < i
    · rw [if_pos hy, if_pos (by omega)]
    · rw [if_neg hy, if_neg (by omega)]
theorem rawAt_queue (n k j : Nat) : (rawAt n k n j).empty j = rawAt n k n (j + 1) := by
  have h : upd (fun x => if n ≤ x ∧ x < n + j then x else 0) (n + j) (n + j) = fun x => if n ≤ x ∧ x < n + (j + 1) then x else 0 := by
    funext x
    unfold upd
    by_cases hx : x = n + j
    · rw [if_pos hx, if_pos (by omega), hx]
    · rw [if_neg hx]
      dsimp only
      by_cases hy : n ≤ x ∧ x < n + j
      · rw [if_pos hy, if_pos (by omega)]
      · rw [if_neg hy, if_neg (by omega)]
  unfold rawAt Raw.empty Raw.join
  dsimp only
  rw [h, Raw.mk.injEq]
  refine ⟨rfl, rfl, rfl, rfl, rfl, ?_⟩
  funext x
  unfold upd
  split <;> rfl
theorem rep_new {n k : Nat} (hn : n ≤ 65536) (hk : k ≤ 65536) : Rep (rawAt n k n k) (fun _ => []) := by
  refine ⟨hn, hk, by simp, ?_, by simp, ?_, by simp [rawAt]⟩
  · intro x hx
    left
    exact if_pos hx
  · intro q hq
    change q < k at hq
    change (if n ≤ n + q ∧ n + q < n + k then n + q else 0) = n + q ∧ (if n ≤ n + q ∧ n + q < n + k then n + q else 0) = n + q
    rw [if_pos (by omega)]
    exact ⟨rfl, rfl⟩

theorem made_at {z : Array Value} {n i : Nat} {v : Value} (h : i < n) (hz : ∀ j : Nat, j < z.size → z[j]! = v) (h0 : 0 < z.size) : (madeCells z n)[i]? = some v := by
  unfold madeCells
  rw [Array.getElem?_map, Array.getElem?_range, if_pos h]
  simp only [Option.map_some, Option.some.injEq]
  exact hz _ (Nat.mod_lt _ h0)

theorem info53 : (Try.prog.info? 53).map (fun i => (i.zero, i.size, i.bytes)) = some (some (.agg #[.int .i64 0, .int .i64 0, .int .i64 0]), 3, 24) := by kernel_rfl
theorem info3 : (Try.prog.info? 3).map (fun i => (i.zero, i.size, i.bytes)) = some (some (.int .i64 0), 1, 8) := by kernel_rfl
theorem under49 : Try.prog.underlying 49 = some (.slice 53) := by kernel_rfl
theorem under41 : Try.prog.underlying 41 = some (.slice 3) := by kernel_rfl

theorem mem_of {w : World} {a p c n k N : Nat} {C0 C1 : Array Value} (hN : n + k = N) (P0 : ∀ i, i < N * 3 → C0[i]? = some (.int .i64 0)) (P1 : ∀ i, i < k * 1 → C1[i]? = some (.int .i64 0))
    (h0 : w.heap[a]? = some (.cells #[.int .i64 n, .slice (some ⟨p, 0, none⟩) N N, .slice (some ⟨c, 0, none⟩) k k] 51 (0, 0))) (h1 : w.heap[p]? = some (.cells C0 53 (0, 0))) (h2 : w.heap[c]? = some (.cells C1 3 (0, 0))) : Mem w a p c (rawAt n k 0 0) := by
  subst hN
  refine ⟨h0, ⟨C0, h1, fun i hi => ?_⟩, ⟨C1, h2, fun q hq => ?_⟩⟩
  · change i < n + k at hi
    have e1 : (rawAt n k 0 0).Q i = 0 := by change (if i < 0 then (-1 : Int) else 0) = 0; exact if_neg (Nat.not_lt_zero i)
    have e2 : (rawAt n k 0 0).A i = 0 := if_neg (by omega)
    have e3 : (rawAt n k 0 0).B i = 0 := if_neg (by omega)
    rw [e1, e2, e3]
    exact ⟨P0 _ (by omega), P0 _ (by omega), P0 _ (by omega)⟩
  · change q < k at hq
    exact P1 _ (by omega)
theorem mem_made {w : World} {n k N : Nat} {C0 C1 : Array Value} (hN : n + k = N) (P0 : ∀ i, i < N * 3 → C0[i]? = some (.int .i64 0)) (P1 : ∀ i, i < k * 1 → C1[i]? = some (.int .i64 0)) :
    Mem (((w.alloc (.cells C0 53)).alloc (.cells C1 3)).alloc (.cells #[.int .i64 n, .slice (some ⟨w.heap.size, 0, none⟩) N N, .slice (some ⟨w.heap.size + 1, 0, none⟩) k k] 51)).drew (w.heap.size + 1 + 1) w.heap.size (w.heap.size + 1) (rawAt n k 0 0) := by
  have s1 := World.size_alloc w (.cells C0 53)
  have s2 := World.size_alloc (w.alloc (.cells C0 53)) (.cells C1 3)
  have h1 := heap_alloc_new w (.cells C0 53)
  have h2 := heap_alloc_new (w.alloc (.cells C0 53)) (.cells C1 3)
  have h3 := heap_alloc_new ((w.alloc (.cells C0 53)).alloc (.cells C1 3)) (.cells #[.int .i64 n, .slice (some ⟨w.heap.size, 0, none⟩) N N, .slice (some ⟨w.heap.size + 1, 0, none⟩) k k] 51)
  rw [s1] at h2
  rw [s2, s1] at h3
  refine (mem_of hN P0 P1 h3 ?_ ?_).drew
  · rw [Below.heap_alloc _ _ _ (by omega), Below.heap_alloc _ _ _ (by omega)]; exact h1
  · rw [Below.heap_alloc _ _ _ (by omega)]; exact h2
theorem mem_made' {w : World} {n k N : Nat} {C0 C1 : Array Value} (hN : n + k = N) (P0 : ∀ i, i < N * 3 → C0[i]? = some (.int .i64 0)) (P1 : ∀ i, i < k * 1 → C1[i]? = some (.int .i64 0)) :
    Mem (((w.alloc (.cells C1 3)).alloc (.cells C0 53)).alloc (.cells #[.int .i64 n, .slice (some ⟨w.heap.size + 1, 0, none⟩) N N, .slice (some ⟨w.heap.size, 0, none⟩) k k] 51)).drew (w.heap.size + 1 + 1) (w.heap.size + 1) w.heap.size (rawAt n k 0 0) := by
  have s1 := World.size_alloc w (.cells C1 3)
  have s2 := World.size_alloc (w.alloc (.cells C1 3)) (.cells C0 53)
  have h1 := heap_alloc_new w (.cells C1 3)
  have h2 := heap_alloc_new (w.alloc (.cells C1 3)) (.cells C0 53)
  have h3 := heap_alloc_new ((w.alloc (.cells C1 3)).alloc (.cells C0 53)) (.cells #[.int .i64 n, .slice (some ⟨w.heap.size + 1, 0, none⟩) N N, .slice (some ⟨w.heap.size, 0, none⟩) k k] 51)
  rw [s1] at h2
  rw [s2, s1] at h3
  refine (mem_of hN P0 P1 h3 ?_ ?_).drew
  · rw [Below.heap_alloc _ _ _ (by omega)]; exact h2
  · rw [Below.heap_alloc _ _ _ (by omega), Below.heap_alloc _ _ _ (by omega)]; exact h1

set_option maxHeartbeats 1000000 in
theorem new_yes (k n : Nat) (w : World) (hk : k ≤ 65536) (hn : n ≤ 65536) :
    Calls Try.prog 8 #[.int .i64 k, .int .i64 n] w fun e w' => ∃ a F, e = .returned (.pointer (some ⟨a, 0, none⟩)) ∧ ListsAt w' a F n k (fun _ => []) ∧ Turn NoBlock w w' ∧ ∀ j, F j → w.heap.size ≤ j := by
  obtain ⟨i0, hi, hz0, hz1, hz2⟩ := info_parts info53
  obtain ⟨i1, hj, hy0, hy1, hy2⟩ := info_parts info3
  obtain ⟨N, hN⟩ : ∃ N, n + k = N := ⟨_, rfl⟩
  have hs : IntKind.i64.wrap ((n : Int) + k) = N := by rw [IntWalk.i64_in _ (by omega)]; omega
  have mk0 := fun (w : World) => run_make (P := Try.prog) w 49 53 i0 _ under49 hi hz0 .i64 .i64 (N : Int) N (by omega) (by omega) (by rw [hz2]; omega) (by omega)
  have mk1 := fun (w : World) => run_make (P := Try.prog) w 41 3 i1 _ under41 hj hy0 .i64 .i64 (k : Int) k (by omega) (by omega) (by rw [hy2]; omega) (by omega)
  rw [hz1] at mk0
  rw [hy1] at mk1
  simp only [Int.toNat_natCast] at mk0 mk1
  have P0 : ∀ i, i < N * 3 → (madeCells (Value.agg #[.int .i64 0, .int .i64 0, .int .i64 0]).cells (N * 3))[i]? = some (.int .i64 0) := fun i hi => made_at hi (fun j hj => by
    have : j < 3 := by simpa [Value.cells] using hj
    match j, this with
    | 0, _ => rfl
    | 1, _ => rfl
    | 2, _ => rfl) (by simp [Value.cells])
  have P1 : ∀ i, i < k * 1 → (madeCells (Value.int .i64 0).cells (k * 1))[i]? = some (.int .i64 0) := fun i hi => made_at hi (fun j hj => by
    have : j < 1 := by simpa [Value.cells] using hj
    match j, this with
    | 0, _ => rfl) (by simp [Value.cells])
  obtain ⟨C0, hC0⟩ : ∃ C, madeCells (Value.agg #[.int .i64 0, .int .i64 0, .int .i64 0]).cells (N * 3) = C := ⟨_, rfl⟩
  obtain ⟨C1, hC1⟩ : ∃ C, madeCells (Value.int .i64 0).cells (k * 1) = C := ⟨_, rfl⟩
  rw [hC0] at mk0 P0
  rw [hC1] at mk1 P1
  have HN : Hid (n + k = N) := hN
  have HP0 : Hid (∀ i, i < N * 3 → C0[i]? = some (.int .i64 0)) := P0
  have HP1 : Hid (∀ i, i < k * 1 → C1[i]? = some (.int .i64 0)) := P1
  clear hN P0 P1 hC0 hC1 hi hz0 hz1 hz2 hj hy0 hy1 hy2
  go_enter Try.func8, Try.ntmps8
  go_wp2
  all_goals
    go_cut [5] (fun s5 wx => ∃ a p c : Nat, s5 = .pointer (some ⟨a, 0, none⟩) ∧ Hid (Mem wx a p c (rawAt n k 0 0) ∧ Turn NoBlock w wx ∧ w.heap.size ≤ a ∧ w.heap.size ≤ p ∧ w.heap.size ≤ c))
    case first =>
      go_region
      all_goals
        go_wp2
        go_meet
        first
          | exact ⟨_, _, _, rfl, mem_made HN.out HP0.out HP1.out, ((((Turn.refl _ _).alloc _).alloc _).alloc _).drew, by omega, by omega, by omega⟩
          | exact ⟨_, _, _, rfl, mem_made' HN.out HP0.out HP1.out, ((((Turn.refl _ _).alloc _).alloc _).alloc _).drew, by omega, by omega, by omega⟩
    case rest =>
      obtain ⟨a, p, c, rfl, H⟩ := hcut
      clear mk0 mk1
      go_wp2_with fail
      go_loopg [28] n (fun g i wr => ∃ j : Nat, j ≤ n ∧ g = n - j ∧ i = .int .i64 j ∧ Hid (Mem wr a p c (rawAt n k j 0) ∧ Turn (Foot a p c) wc wr))
      case atStart => exact ⟨0, by omega, by omega, rfl, H.out.1, Turn.refl _ _⟩
      case round =>
        obtain ⟨j, hj, hgk, rfl, HM⟩ := hrel
        by_cases hlt : j < n
        · have m1 := HM.out.1
          have d1 := m1.c1
          have d2 := m1.q (i := j) (show j < n + k by omega)
          have d3 := m1.fp (j * 3)
          simp only [rawAt] at d1
          rw [HN.out] at d1
          have hjN : j < N := by have := HN.out; omega
          have HM2 : Hid (Mem (wr.setCell ⟨p, j * 3, none⟩ (.int .i64 (-1))) a p c (rawAt n k (j + 1) 0) ∧ Turn (Foot a p c) wc (wr.setCell ⟨p, j * 3, none⟩ (.int .i64 (-1)))) :=
            ⟨by have := m1.setQ (i := j) (show j < n + k by omega) (-1); rw [rawAt_item] at this; exact this, HM.out.2.then (foot_setP _ _ _ _ _)⟩
          clear m1
          go_wp2_with fail
          go_roundg (n - (j + 1))
          case measure => omega
          case rel => exact ⟨j + 1, by omega, by omega, by go_num, HM2⟩
        · obtain rfl : j = n := by omega
          go_wp2_with fail
          go_loopg [40] k (fun g i wy => ∃ q : Nat, q ≤ k ∧ g = k - q ∧ i = .int .i64 q ∧ Hid (Mem wy a p c (rawAt j k j q) ∧ Turn (Foot a p c) wc wy))
          case atStart => exact ⟨0, by omega, by omega, rfl, HM⟩
          case round =>
            obtain ⟨q, hq, hgk2, rfl, HQ⟩ := hrel
            by_cases hlt2 : q < k
            · have ce := empty_any _ a p c q _ HQ.out.1 hlt2 hn hk
              go_wp2_with (go_at_call 26; (with_reducible refine ce.mono ?_); rintro e w7 ⟨rfl, M7, T7⟩; have HM7 : Hid (Mem w7 a p c (rawAt j k j (q + 1)) ∧ Turn (Foot a p c) wc w7) := ⟨rawAt_queue j k q ▸ M7, HQ.out.2.then T7⟩; clear M7 T7 ce)
              go_roundg (k - (q + 1))
              case measure => omega
              case rel => exact ⟨q + 1, by omega, by omega, by go_num, HM7⟩
            · obtain rfl : q = k := by omega
              go_wp2_with fail
              go_ret
              obtain ⟨h1, h2, h3, h4, h5⟩ := H.out
              refine ⟨a, _, rfl, ⟨p, c, _, HQ.out.1, rep_new hn hk, rfl, rfl, rfl⟩, h2.trans HQ.out.2 (fun j hj => ?_), fun j hj => ?_⟩
              · right
                rcases hj with rfl | rfl | rfl <;> assumption
              · rcases hj with rfl | rfl | rfl <;> assumption

end Go.Proofs.Ytpfoleaampcibaa
