/-
  What Place answers, and Put of what it refuses.
-/
import Derived.Test.YtdddmjdlikjedaaGAwake
namespace Go.Proofs.Ytdddmjdlikjedaa
open Go.ChangeShapes Go.WideShapes Go.ChangeAt Go.RowKit Go.Shelf

/-- Where what lies ahead of place k ends. -/
def atK (l : List Pc) (k : Nat) : Int := match k with
  | 0 => 0
  | k + 1 => ((l[k]?).map Pc.fin).getD 0
theorem atK_succ {l : List Pc} {k : Nat} {p : Pc} (h : l[k]? = some p) : atK l (k + 1) = p.fin := by simp [atK, h]
theorem atK_bd {l : List Pc} {size : Int} (ok : GOK size l) (k : Nat) : 0 ≤ atK l k ∧ atK l k ≤ size := by
  have h1 := ok.top
  cases k with
  | zero => simp [atK]; omega
  | succ k =>
    show 0 ≤ ((l[k]?).map Pc.fin).getD 0 ∧ ((l[k]?).map Pc.fin).getD 0 ≤ size
    cases h : l[k]? with
    | none => simp; omega
    | some p =>
      have := ok.each p (List.mem_of_getElem? h)
      simp
      unfold Pc.fin at *
      omega
/-- What Place answers. -/
def PlaceIs (l : List Pc) (size n : Int) (e : Ending) : Prop :=
  (∃ k p, l[k]? = some p ∧ (∀ (j : Nat) (q : Pc), j < k → l[j]? = some q → q.at' - atK l j < n) ∧ n ≤ p.at' - atK l k ∧ e = .returned (.tuple #[.int .i64 (atK l k), .int .i64 0])) ∨
  ((∀ (j : Nat) (q : Pc), l[j]? = some q → q.at' - atK l j < n) ∧ ((size - atK l l.length < n ∧ e = .returned (.tuple #[.int .i64 0, .int .i64 (-4)])) ∨ (n ≤ size - atK l l.length ∧ e = .returned (.tuple #[.int .i64 (atK l l.length), .int .i64 0]))))

theorem place_no (a : Nat) (n : Int) (w : World) (hn : ¬ isGrid 0 n) :
    Calls Try.prog 38 #[.pointer (some ⟨a, 0, none⟩), .int .i64 n] w fun e w' => e = .returned (.tuple #[.int .i64 0, .int .i64 (-10)]) ∧ w = w' := by
  have c1 := grid_any 0 n
  rw [show decide (isGrid 0 n) = false from decide_eq_false hn] at c1
  clear hn
  go_enter Try.func38, Try.ntmps38
  go_wp2_with (go_at_call 67; (with_reducible refine (c1 _).mono ?_); rintro e w' ⟨rfl, rfl⟩)
  go_ret2
  exact ⟨rfl, rfl⟩

set_option maxRecDepth 20000 in
set_option maxHeartbeats 1000000 in
theorem place_any {w : World} {a : Nat} {size most : Int} {v : Value} {l : List Pc} (h : GMem w a size most v l) (ok : GOK size l) (hll : l.length ≤ 65536) (n : Int) (_fn : fit n) (hn : isGrid 0 n) :
    Calls Try.prog 38 #[.pointer (some ⟨a, 0, none⟩), .int .i64 n] w fun e w' => PlaceIs l size n e ∧ Turn NoBlock w w' := by
  have c1 := grid_any 0 n
  rw [show decide (isGrid 0 n) = true from decide_eq_true hn] at c1
  have c0 := h.c0
  have c2 := h.c2
  obtain ⟨pv, cv, hv⟩ := h.row.slice
  obtain ⟨N, hN⟩ : ∃ N, l.length = N := ⟨_, rfl⟩
  rw [hN] at hv hll
  rw [hv] at c2
  have HB := Lib.hid (fun k => atK_bd ok k)
  have htop := ok.top
  have HG := Lib.hid (And.intro h (And.intro ok (And.intro hN hv)))
  clear h ok hN hv hn
  go_enter Try.func38, Try.ntmps38
  go_wp2_with (go_at_call 67; (with_reducible refine (c1 _).mono ?_); rintro e w' ⟨rfl, rfl⟩)
  go_loopg [4, 16] N (fun g s4 s16 wr => ∃ k : Nat, k ≤ N ∧ g = N - k ∧ s4 = .int .i64 (atK l k) ∧ s16 = .int .i64 k ∧ Hid (Turn NoBlock w wr ∧ ∀ (j : Nat) (q : Pc), j < k → l[j]? = some q → q.at' - atK l j < n))
  case atStart => exact ⟨0, by omega, by omega, rfl, rfl, Lib.hid ⟨Turn.refl _ _, fun j q hj _ => by omega⟩⟩
  case round =>
    obtain ⟨k, hk, hg, rfl, rfl, HT⟩ := hrel
    have hb := HB.out k
    by_cases hlt : k < N
    · obtain ⟨q, hq⟩ := gget_some (show k < l.length by rw [HG.out.2.2.1]; exact hlt)
      have hr := HG.out.1.row.past HT.out.1
      rw [HG.out.2.2.2] at hr
      obtain ⟨g, c', he, -, -⟩ := hr.shape (by rw [HG.out.2.2.1]; omega)
      simp only [Value.slice.injEq] at he
      obtain ⟨rfl, -, rfl⟩ := he
      obtain ⟨c0', c1', c2', c3', c4'⟩ := hr.five hq
      have hq1 := HG.out.2.1.each q (List.mem_of_getElem? hq)
      have hqe : 0 ≤ q.at' ∧ q.at' ≤ 4294967296 ∧ fit q.fin := by unfold fit Pc.fin at *; omega
      have cE := fun w => gend_any q w hqe.2.2
      have hs1 : atK l (k + 1) = q.fin := atK_succ hq
      have hw : IntKind.i64.wrap (q.at' - atK l k) = q.at' - atK l k := wrap_fit (by unfold fit; omega)
      have HQ := Lib.hid (And.intro hq hs1)
      obtain ⟨A, hA⟩ : ∃ A, atK l k = A := ⟨_, rfl⟩
      rw [hA] at hw hb ⊢
      unfold Pc.agg at cE
      clear hr hq hq1 hs1
      by_cases hle : n ≤ q.at' - A
      · go_wp2
        go_ret2
        refine ⟨.inl ⟨k, q, HQ.out.1, HT.out.2, by rw [hA]; exact hle, by rw [hA]; rfl⟩, HT.out.1.trans ?_ (fun _ h => .inl h)⟩
        first
          | exact (Turn.refl _ _).alloc _
          | exact ((Turn.refl _ _).alloc _).drew
      · go_wp2_with (go_at_call 75; (with_reducible refine (cE _).mono ?_); rintro e w5 ⟨rfl, t5⟩)
        go_roundg (N - (k + 1))
        case measure => omega
        case rel => exact ⟨k + 1, by omega, by omega, by rw [HQ.out.2], by go_num, Lib.hid ⟨(HT.out.1.trans ((Turn.refl NoBlock _).alloc _) (fun _ h => .inl h)).trans t5 (fun _ h => .inl h), fun j p hj hp => by
          rcases Nat.lt_or_ge j k with h1 | h1
          · exact HT.out.2 j p h1 hp
          · obtain rfl : j = k := by omega
            rw [HQ.out.1] at hp
            simp only [Option.some.injEq] at hp
            subst hp
            rw [hA]
            omega⟩⟩
    · obtain rfl : k = N := by omega
      have d0 := (HG.out.1.past HT.out.1).c0
      obtain ⟨A, hA⟩ : ∃ A, atK l k = A := ⟨_, rfl⟩
      rw [hA] at hb ⊢
      have hw : IntKind.i64.wrap (size - A) = size - A := wrap_fit (by unfold fit; omega)
      have hlast : ∀ (j : Nat) (q : Pc), l[j]? = some q → q.at' - atK l j < n := fun j q hq => HT.out.2 j q (by have := (List.getElem?_eq_some_iff.1 hq).1; have := HG.out.2.2.1; omega) hq
      have HLs := Lib.hid hlast
      clear hlast
      by_cases hle : n ≤ size - A
      · go_wp2
        go_ret2
        exact ⟨.inr ⟨HLs.out, .inr ⟨by rw [HG.out.2.2.1, hA]; exact hle, by rw [HG.out.2.2.1, hA]; rfl⟩⟩, HT.out.1⟩
      · go_wp2
        go_ret2
        exact ⟨.inr ⟨HLs.out, .inl ⟨by rw [HG.out.2.2.1, hA]; omega, rfl⟩⟩, HT.out.1⟩
end Go.Proofs.Ytdddmjdlikjedaa
