/-
  What slices.DeleteFunc makes of a row of watches: those of which the function is false, in their order. The function is any that reads alone.
-/
import Derived.Test.YtcnellkoejhofaaQIdx
namespace Go.Proofs.Ytcnellkoejhofaa
open Go.ChangeShapes Go.WideShapes Go.ChangeAt Go.RowKit

section
variable {A : Type} (P : A → Bool)
theorem kept_none (ws : List A) (h : FirstAt P ws ws.length) : ws.filter (fun t => !P t) = ws := by
  rw [List.filter_eq_self]
  intro t ht
  obtain ⟨j, hj⟩ := List.getElem?_of_mem ht
  have := h.no j t (List.getElem?_eq_some_iff.1 hj).1 hj
  rw [this]; rfl
theorem kept_first (ws : List A) {k : Nat} (h : FirstAt P ws k) (hk : k < ws.length) : (ws.take (k + 1)).filter (fun t => !P t) = ws.take k := by
  obtain ⟨t, ht⟩ : ∃ t, ws[k]? = some t := ⟨_, List.getElem?_eq_getElem hk⟩
  have h1 : (ws.take k).filter (fun t => !P t) = ws.take k := by
    rw [List.filter_eq_self]
    intro x hx
    obtain ⟨j, hj⟩ := List.getElem?_of_mem hx
    have hjk := (List.getElem?_eq_some_iff.1 hj).1
    rw [List.length_take] at hjk
    rw [List.getElem?_take_of_lt (by omega)] at hj
    rw [h.no j x (by omega) hj]; rfl
  rw [List.take_add_one, ht, List.filter_append, h1]
  simp [h.yes t ht]
/-- What stands in the row while it is gone through. -/
structure Kept (ws R : List A) (i j : Nat) : Prop where
  lt : i < j
  le : j ≤ ws.length
  len : R.length = ws.length
  head : R.take i = (ws.take j).filter (fun t => !P t)
  tail : R.drop j = ws.drop j
theorem Kept.start {ws : List A} {k : Nat} (h : FirstAt P ws k) (hk : k < ws.length) : Kept P ws ws k (k + 1) := ⟨by omega, by omega, rfl, (kept_first P ws h hk).symm, rfl⟩
variable {P}
theorem Kept.at {ws R : List A} {i j : Nat} (h : Kept P ws R i j) (_hj : j < ws.length) : R[j]? = ws[j]? := by
  have := congrArg (fun l => l[0]?) h.tail
  simpa using this
theorem Kept.skip {ws R : List A} {i j : Nat} {t : A} (h : Kept P ws R i j) (ht : ws[j]? = some t) (hp : P t = true) : Kept P ws R i (j + 1) := by
  have hj := (List.getElem?_eq_some_iff.1 ht).1
  refine ⟨by have := h.lt; omega, by omega, h.len, ?_, ?_⟩
  · rw [List.take_add_one, ht, List.filter_append, h.head]; simp [hp]
  · have := congrArg (List.drop 1) h.tail
    simpa [List.drop_drop] using this
theorem Kept.keep {ws R : List A} {i j : Nat} {t : A} (h : Kept P ws R i j) (ht : ws[j]? = some t) (hp : P t = false) : Kept P ws (R.set i t) (i + 1) (j + 1) := by
  have hj := (List.getElem?_eq_some_iff.1 ht).1
  have hlt := h.lt
  have hil : i < R.length := by rw [h.len]; omega
  refine ⟨by omega, by omega, by rw [List.length_set]; exact h.len, ?_, ?_⟩
  · rw [List.take_add_one (l := ws), ht, List.filter_append, ← h.head, List.take_add_one, List.getElem?_set_self hil, List.take_set_of_le (Nat.le_refl _)]; simp [hp]
  · have := congrArg (List.drop 1) h.tail
    rw [List.drop_set_of_lt (by omega)]
    simpa [List.drop_drop] using this
theorem Kept.fin {ws R : List A} {i : Nat} (h : Kept P ws R i ws.length) : R.take i = ws.filter (fun t => !P t) := by
  rw [h.head, List.take_length]
end

set_option maxRecDepth 20000 in
set_option maxHeartbeats 1000000 in
theorem delete_a (w : World) (v : Value) (ws : List Wc) (N : Nat) (caps : Array Value) (P : Wc → Bool) (hr : ARow v ws w) (hE : ∀ a W, Sem.run Try.prog (callFunc N a) W = .ok (.enter N a) W)
    (hP : ∀ W t, t ∈ ws → Turn (Blk v) w W → Calls Try.prog N (#[t.agg] ++ caps) W fun e w' => e = .returned (.bool (P t)) ∧ Turn NoBlock W w')
    (hn : ws.length ≤ 1000000000) :
    Calls Try.prog 37 #[v, .func (.func N) #[] caps] w fun e w' => ∃ v', e = .returned v' ∧ ARow v' (ws.filter (fun t => !P t)) w' ∧ Turn (Blk v) w w' ∧ (∀ k, Blk v' k → Blk v k) := by
  have hk := first_ex P ws
  generalize ws.findIdx P = k at hk
  have cI := Lib.hid (index_a w v ws N caps P k hr hE (fun W t ht hT => hP W t ht (TU hT)) hk hn)
  by_cases hlt : k < ws.length
  · have hhit : hitAt k ws.length = (k : Int) := by unfold hitAt; rw [if_pos hlt]
    rw [hhit] at cI
    obtain ⟨g, o, c, rfl, hnc, hcm, ht, hcl, hso⟩ := WRow.shape hr (by omega)
    have HP := Lib.hid hP
    have HK := Lib.hid (Kept.start P hk hlt)
    obtain ⟨n, hne⟩ : ∃ n, ws.length = n := ⟨_, rfl⟩
    have HN := Lib.hid hne
    rw [hne] at hr
    have HR := Lib.hid hr
    rw [hne] at hlt hn hnc cI
    have hkn : ((k : Int) == -1) = false := by simp
    rw [hne]
    clear hr hP hk hhit ht hcl hso hne
    go_enter Try.func37, Try.ntmps37
    go_wp2_with (go_at_call 41; (with_reducible refine cI.out.mono ?_); rintro e w1 ⟨rfl, t1⟩; have T1 := Lib.hid t1; clear t1)
    go_loopg [5, 6] (n - (k + 1)) (fun z s5 s6 wr => ∃ (i j : Nat) (R : List Wc), z = n - j ∧ s5 = .int .i64 (i : Int) ∧ s6 = .int .i64 (j : Int) ∧ i < j ∧ j ≤ n ∧ Hid (Kept P ws R i j ∧ ARow (.slice (some ⟨g, o, none⟩) n c) R wr ∧ Turn (fun k => k = g) w wr))
    case atStart => exact ⟨k, k + 1, ws, rfl, rfl, by go_num, by omega, by omega, Lib.hid ⟨HK.out, HR.out.past T1.out, TU T1.out⟩⟩
    case round =>
      obtain ⟨i, j, R, hz, rfl, rfl, hij, hj, HX⟩ := hrel
      by_cases hjn : j < n
      · obtain ⟨t, ht⟩ : ∃ t, ws[j]? = some t := ⟨_, List.getElem?_eq_getElem (by rw [HN.out]; exact hjn)⟩
        have hRt : R[j]? = some t := by rw [HX.out.1.at (by rw [HN.out]; exact hjn), ht]
        obtain ⟨d0, d1⟩ := HX.out.2.1.two hRt
        have hji : (j : Int) < n := by omega
        have hii : (i : Int) < n := by omega
        obtain ⟨u, hu⟩ : ∃ u, R[i]? = some u := ⟨_, List.getElem?_eq_getElem (by rw [HX.out.1.len, HN.out]; omega)⟩
        have hTB := WRow.typed HX.out.2.1 (k := g) (by simp [Blk, Value.ownBlock])
        have hg2 : g < wr.heap.size := hTB.lt
        have tb : Turn NoBlock wr (wr.alloc (.cells #[.int .i64 t.k, .int .i64 t.m] 66)) := (Turn.refl _ _).alloc _
        have cC := HP.out (wr.alloc (.cells #[.int .i64 t.k, .int .i64 t.m] 66)) t (List.mem_of_getElem? ht) ((HX.out.2.2.mono (fun k hk => .inl (by subst hk; simp [Blk, Value.ownBlock]))).alloc _)
        unfold Wc.agg at cC
        have HB := Lib.hid (fun W (tW : Turn NoBlock (wr.alloc (.cells #[.int .i64 t.k, .int .i64 t.m] 66)) W) => And.intro (tW.cell (World.cell?_alloc_new wr _ _ 0) (fun h => h)) (And.intro (tW.cell (World.cell?_alloc_new wr _ _ 1) (fun h => h)) (And.intro (HX.out.2.1.past (TT tb tW)) (hTB.kept (TT tb tW) (fun h => h)))))
        cases hpt : P t with
        | true =>
          rw [hpt] at cC
          have HPT := Lib.hid hpt
          clear hpt hRt hu hTB
          go_wp2_with ((with_reducible refine cC.mono ?_); rintro e w2 ⟨rfl, t2⟩; have T2 := Lib.hid t2; clear t2)
          go_roundg (n - (j + 1))
          case measure => omega
          case rel => exact ⟨i, j + 1, R, rfl, rfl, by go_num, by omega, by omega, Lib.hid ⟨HX.out.1.skip ht HPT.out, HX.out.2.1.past (TT tb T2.out), HX.out.2.2.trans (TT tb T2.out) (fun _ h => h.elim)⟩⟩
        | false =>
          rw [hpt] at cC
          have HPT := Lib.hid hpt
          have HU := Lib.hid hu
          clear hpt hRt hu hTB
          go_wp2_with ((with_reducible refine cC.mono ?_); rintro e w2 ⟨rfl, t2⟩; have T2 := Lib.hid t2; obtain ⟨b0, b1, r2, y2⟩ := HB.out _ t2; obtain ⟨e0, e1⟩ := r2.two HU.out; have f0 := y2.free (o + i * 2); have f1 := y2.free (o + i * 2 + 1); have Y2 := Lib.hid (And.intro r2 y2); clear t2 r2 y2)
          have T2' := Lib.hid (HX.out.2.2.trans (TT tb T2.out) (fun _ h => h.elim))
          have hs := Lib.hid (ARow.set Y2.out.1 (show i < R.length by rw [HX.out.1.len, HN.out]; omega) t)
          go_roundg (n - (j + 1))
          case measure => omega
          case rel => exact ⟨i + 1, j + 1, R.set i t, rfl, by go_num, by go_num, by omega, by omega, Lib.hid ⟨HX.out.1.keep ht HPT.out, hs.out, (T2'.out.setCell (.inl rfl) _).setCell (.inl rfl) _⟩⟩
      · obtain rfl : j = n := by omega
        have hi : i < R.length := by rw [HX.out.1.len, HN.out]; omega
        have hrow := HX.out.2.1
        unfold ARow at hrow
        rw [HX.out.1.len, HN.out] at hrow hi
        obtain ⟨g', o', c', he, hnc', -, hTB, -, hso⟩ := hrow.shape (by omega)
        simp only [Value.slice.injEq, Option.some.injEq, Addr.mk.injEq, and_true, true_and] at he
        obtain ⟨⟨rfl, rfl⟩, rfl⟩ := he
        obtain ⟨D, hs1, hD, -⟩ := sl_lo 64 2 elem_watches size_watches g o j c i (by omega) hnc
        have hs2 := sl_hi 64 2 elem_watches size_watches g o j c i (by omega)
        obtain rfl := hD (by omega)
        obtain ⟨zs, hzl, hcw⟩ := clear_watch wr 0 g (o + i * 2) (j - i) (c - i) (by omega) (fun q hq => by rw [Nat.add_assoc]; exact hso _ (by have := Nat.mul_le_mul_right 2 hnc; omega)) hTB.free
        have ht9 := hrow.tail (i := i) (by omega) zs hzl
        have HZ := Lib.hid (And.intro ht9 (wturn_sets (F := fun k => k = g) rfl zs (o + i * 2) _ _ HX.out.2.2))
        have hii : (i : Int) < j := by omega
        clear hrow hTB hso hzl ht9
        go_wp2
        go_ret
        have hK := HX.out.1
        have hfin := Kept.fin (HN.out ▸ hK)
        have hl : (ws.filter (fun t => !P t)).length = i := by rw [← hfin, List.length_take, hK.len, HN.out]; omega
        refine ⟨_, rfl, ?_, HZ.out.2.mono (fun q hq => .inl (by subst hq; simp [Blk, Value.ownBlock])), fun q hq => by simpa [Blk, Value.ownBlock] using hq⟩
        have h1 := HZ.out.1
        unfold wcells at h1
        rw [fl_take Wc.cells 2 (fun _ => rfl), hfin] at h1
        unfold ARow wcells
        rw [hl]
        exact h1
  · have hkn : k = ws.length := by have := hk.le; omega
    subst hkn
    have hhit : hitAt ws.length ws.length = (-1 : Int) := by unfold hitAt; rw [if_neg (by omega)]
    rw [hhit] at cI
    rw [kept_none P ws hk]
    have HR := Lib.hid hr
    obtain ⟨p, c, rfl⟩ := WRow.sl hr
    clear hr hP hk hhit hlt
    generalize ws.length = n at *
    go_enter Try.func37, Try.ntmps37
    go_wp2_with (go_at_call 41; (with_reducible refine cI.out.mono ?_); rintro e w1 ⟨rfl, t1⟩; have T1 := Lib.hid t1; clear t1)
    go_ret
    exact ⟨_, rfl, HR.out.past T1.out, TU T1.out, fun _ h => h⟩
end Go.Proofs.Ytcnellkoejhofaa
