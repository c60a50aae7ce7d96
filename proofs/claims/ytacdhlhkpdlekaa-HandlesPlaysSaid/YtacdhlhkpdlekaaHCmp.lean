/-
  The statements' own helpers: an entry as the reference's, and the comparison of two slices of numbers, or of entries, that hold the same. No conditions.
-/
import Derived.Test.YtacdhlhkpdlekaaHRef7
namespace Go.Proofs.Ytacdhlhkpdlekaa
open Go.ChangeShapes Go.WideShapes Go.ChangeAt Go.RowKit

theorem results_cell1 {fn : Func} {p : Tmp} {ty : TypeId} (h : fn.results = #[.cell p ty]) (tmps : Array Value) (P : Program) (w : World) :
    (results fn tmps).run P w = ((asAddr (tmps.getD p undef)).run P w).andThen fun a w₁ => (loadVar ty a).run P w₁ := by
  simp only [results, h]
  simp [Sem.run_bind, Result.andThen]

theorem ref_any (o k r : Int) (w : World) :
    Calls Try.prog 32 #[.agg #[.int .i64 o, .int .i64 k, .int .i64 r]] w fun e w' => e = .returned (.agg #[.int .i64 o, .int .i64 k, .int .i64 r]) ∧ w' = (w.alloc (.cells #[.int .i64 o, .int .i64 k, .int .i64 r] 33)).alloc (.cells #[.int .i64 o, .int .i64 k, .int .i64 r] 76) := by
  go_enter Try.func32, Try.ntmps32
  go_wp2
  (try simp only [Exit.inBlock, Exit.then])
  refine bodyPost_ret (v := .agg #[.int .i64 o, .int .i64 k, .int .i64 r]) (by rw [results_cell1 rfl]; go_simp) rfl ⟨rfl, rfl⟩

theorem ints_same (w : World) (va vb : Value) (xs : List Int) (ha : Ints va xs w) (hb : Ints vb xs w) (hx : xs.length ≤ 9223372036854775807) :
    Calls Try.prog 13 #[va, vb] w fun e w' => e = .returned (.bool true) ∧ ∃ n, w' = w.drewN n := by
  obtain ⟨pa, ca, rfl⟩ := ints_slice ha
  obtain ⟨pb, cb, rfl⟩ := ints_slice hb
  obtain ⟨n, hn⟩ : ∃ n, xs.length = n := ⟨_, rfl⟩
  have HA : Hid (Ints (.slice pa xs.length ca) xs w) := ha
  have HB : Hid (Ints (.slice pb xs.length cb) xs w) := hb
  have HN : Hid (xs.length = n) := hn
  rw [hn] at HA HB hx ⊢
  clear ha hb hn
  go_enter Try.func13, Try.ntmps13
  go_wp2
  go_loopg [13] n (fun g c wr => ∃ i d : Nat, i ≤ n ∧ g = n - i ∧ c = .int .i64 i ∧ wr = w.drewN d)
  case atStart => exact ⟨0, 0, by omega, by omega, rfl, rfl⟩
  case round =>
    obtain ⟨i, d, hi, hgk, rfl, rfl⟩ := hrel
    by_cases hlt : i < n
    · obtain ⟨ga, _, hea, _⟩ := ints_shape HA.out (by rw [HN.out]; omega)
      obtain ⟨gb, _, heb, _⟩ := ints_shape HB.out (by rw [HN.out]; omega)
      simp only [Value.slice.injEq] at hea heb
      obtain ⟨rfl, _, rfl⟩ := hea
      obtain ⟨rfl, _, rfl⟩ := heb
      have c1 := ints_cell HA.out i (by rw [HN.out]; exact hlt)
      have c2 := ints_cell HB.out i (by rw [HN.out]; exact hlt)
      obtain ⟨x, hx⟩ : ∃ x, xs.getD i 0 = x := ⟨_, rfl⟩
      rw [hx] at c1 c2
      have hlt' : (i : Int) < (n : Int) := by omega
      clear hx
      go_wp2
      go_quiet (fail)
      go_wp2
      go_roundg (n - (i + 1))
      case measure => omega
      case rel => exact ⟨i + 1, _, by omega, by omega, by go_num, rfl⟩
    · obtain rfl : i = n := by omega
      go_wp2
      go_ret
      exact ⟨rfl, d, rfl⟩

theorem ents_at {w : World} {g n c : Nat} {es : List Ent} {e : Ent} {k t : Nat} (h : w.ownsRow 0 t 3 (.slice (some ⟨g, 0, none⟩) n c) es.length (entsOf es)) (hk : es[k]? = some e) :
    w.cell? ⟨g, k * 3, none⟩ = some (.int .i64 e.o) ∧ w.cell? ⟨g, k * 3 + 1, none⟩ = some (.int .i64 e.k) ∧ w.cell? ⟨g, k * 3 + 2, none⟩ = some (.int .i64 e.r) := by
  have hlt := (List.getElem?_eq_some_iff.1 hk).1
  have hx := eo_at _ _ _ hk
  obtain ⟨_, _, he, _⟩ := own_shape h (by omega)
  simp at he
  have hn := he.2.1
  have h' := h
  rw [← hn] at h'
  exact ⟨(h'.cellAt (k * 3) (by omega)).trans hx.1, (h'.cellAt (k * 3 + 1) (by omega)).trans hx.2.1, (h'.cellAt (k * 3 + 2) (by omega)).trans hx.2.2⟩

set_option maxRecDepth 20000 in
set_option maxHeartbeats 2000000 in
theorem same_any (w : World) (va vb : Value) (es : List Ent) (ha : Ents va es w) (hb : REnts vb es w) (hx : es.length ≤ 65536) :
    Calls Try.prog 15 #[va, vb] w fun e w' => e = .returned (.bool true) ∧ Turn NoBlock w w' := by
  obtain ⟨pa, ca, rfl⟩ := own_slice ha
  obtain ⟨pb, cb, rfl⟩ := own_slice hb
  obtain ⟨n, hn⟩ : ∃ n, es.length = n := ⟨_, rfl⟩
  have HA : Hid (Ents (.slice pa es.length ca) es w) := ha
  have HB : Hid (REnts (.slice pb es.length cb) es w) := hb
  have HN : Hid (es.length = n) := hn
  rw [hn] at HA HB hx ⊢
  clear ha hb hn
  go_enter Try.func15, Try.ntmps15
  go_wp2
  go_loopg [13] n (fun g c wr => ∃ i : Nat, i ≤ n ∧ g = n - i ∧ c = .int .i64 i ∧ Hid (Turn NoBlock w wr))
  case atStart => exact ⟨0, by omega, by omega, rfl, Lib.hid (Turn.refl _ _)⟩
  case round =>
    obtain ⟨i, hi, hgk, rfl, HT⟩ := hrel
    by_cases hlt : i < n
    · have hA := (own_ents _ _).kept _ _ _ HA.out HT.out (fun _ _ h => h)
      have hB := (own_rents _ _).kept _ _ _ HB.out HT.out (fun _ _ h => h)
      unfold Ents at hA
      unfold REnts at hB
      obtain ⟨ga, _, hea, _⟩ := own_shape hA (by rw [HN.out]; omega)
      obtain ⟨gb, _, heb, _⟩ := own_shape hB (by rw [HN.out]; omega)
      simp only [Value.slice.injEq] at hea heb
      obtain ⟨rfl, -, rfl⟩ := hea
      obtain ⟨rfl, -, rfl⟩ := heb
      obtain ⟨e, he⟩ : ∃ e, es[i]? = some e := ⟨_, List.getElem?_eq_getElem (by rw [HN.out]; exact hlt)⟩
      obtain ⟨a0, a1, a2⟩ := ents_at hA he
      obtain ⟨b0, b1, b2⟩ := ents_at hB he
      generalize e.o = eo at *
      generalize e.k = ek at *
      generalize e.r = er at *
      have hlt' : (i : Int) < (n : Int) := by omega
      have hi0 : (0 : Int) ≤ (i : Int) := by omega
      have HR := Lib.hid (fun w => ref_any eo ek er w)
      clear hA hB he
      go_wp2
      go_region_held3 (fun w' => (w'.cell? ⟨ga, i * 3, none⟩ = some (.int .i64 eo) ∧ w'.cell? ⟨ga, i * 3 + 1, none⟩ = some (.int .i64 ek) ∧ w'.cell? ⟨ga, i * 3 + 2, none⟩ = some (.int .i64 er)) ∧ (w'.cell? ⟨gb, i * 3, none⟩ = some (.int .i64 eo) ∧ w'.cell? ⟨gb, i * 3 + 1, none⟩ = some (.int .i64 ek) ∧ w'.cell? ⟨gb, i * 3 + 2, none⟩ = some (.int .i64 er))) (first | exact ⟨⟨a0, a1, a2⟩, ⟨b0, b1, b2⟩⟩ | exact M2)
        (first | (go_at_call 32; (with_reducible refine (HR.out _).mono ?_); rintro e w2 ⟨rfl, hw⟩; have T2 := Lib.hid (show Turn NoBlock wr w2 by rw [hw]; exact ((((Turn.refl NoBlock wr).drew).alloc _).alloc _)); have M2 := (show (w2.cell? ⟨ga, i * 3, none⟩ = some (.int .i64 eo) ∧ w2.cell? ⟨ga, i * 3 + 1, none⟩ = some (.int .i64 ek) ∧ w2.cell? ⟨ga, i * 3 + 2, none⟩ = some (.int .i64 er)) ∧ (w2.cell? ⟨gb, i * 3, none⟩ = some (.int .i64 eo) ∧ w2.cell? ⟨gb, i * 3 + 1, none⟩ = some (.int .i64 ek) ∧ w2.cell? ⟨gb, i * 3 + 2, none⟩ = some (.int .i64 er)) from ⟨⟨T2.out.cell a0 (fun h => h), T2.out.cell a1 (fun h => h), T2.out.cell a2 (fun h => h)⟩, ⟨T2.out.cell b0 (fun h => h), T2.out.cell b1 (fun h => h), T2.out.cell b2 (fun h => h)⟩⟩); clear hw))
      all_goals
        go_wp2
        go_roundg (n - (i + 1))
        case measure => omega
        case rel => exact ⟨i + 1, by omega, by omega, by go_num, Lib.hid (HT.out.trans T2.out (fun _ h => .inl h))⟩
    · obtain rfl : i = n := by omega
      go_wp2
      go_ret
      exact ⟨rfl, HT.out⟩
end Go.Proofs.Ytacdhlhkpdlekaa
