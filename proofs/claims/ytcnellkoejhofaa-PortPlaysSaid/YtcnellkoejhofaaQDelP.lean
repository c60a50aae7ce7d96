/-
  What slices.DeleteFunc makes of a row of packets: those of which the function is false, in their order. The function is any that reads alone.
-/
import Derived.Test.YtcnellkoejhofaaQDel
namespace Go.Proofs.Ytcnellkoejhofaa
open Go.ChangeShapes Go.WideShapes Go.ChangeAt Go.RowKit

set_option maxRecDepth 20000 in
set_option maxHeartbeats 1000000 in
theorem delete_p (w : World) (v : Value) (ws : List Pk) (N : Nat) (caps : Array Value) (P : Pk → Bool) (hr : PRow v ws w) (hE : ∀ a W, Sem.run Try.prog (callFunc N a) W = .ok (.enter N a) W)
    (hP : ∀ W t, t ∈ ws → Turn (Blk v) w W → Calls Try.prog N (#[t.agg] ++ caps) W fun e w' => e = .returned (.bool (P t)) ∧ Turn NoBlock W w')
    (hn : ws.length ≤ 1000000000) :
    Calls Try.prog 38 #[v, .func (.func N) #[] caps] w fun e w' => ∃ v', e = .returned v' ∧ PRow v' (ws.filter (fun t => !P t)) w' ∧ Turn (Blk v) w w' ∧ (∀ k, Blk v' k → Blk v k) := by
  have hk := first_ex P ws
  generalize ws.findIdx P = k at hk
  have cI := Lib.hid (index_p w v ws N caps P k hr hE (fun W t ht hT => hP W t ht (TU hT)) hk hn)
  by_cases hlt : k < ws.length
  · have hhit : hitAt k ws.length = (k : Int) := by unfold hitAt; rw [if_pos hlt]
    rw [hhit] at cI
    obtain ⟨g, o, c, rfl, hnc, hcm, ht, hcl, hso⟩ := WRow.shape hr (by omega)
    have HP := Lib.hid hP
    have HK := Lib.hid (Kept.start P hk hlt)
    obtain ⟨n, hne⟩ : ∃ n, ws.length = n := ⟨_, rfl⟩
    have HN := Lib.hid hne
    rw [hne] at hr
    have HR := Lib.hid hr
    rw [hne] at hlt hn hnc cI
    have hkn : ((k : Int) == -1) = false := by simp
    rw [hne]
    clear hr hP hk hhit ht hcl hso hne
    go_enter Try.func38, Try.ntmps38
    go_wp2_with (go_at_call 42; (with_reducible refine cI.out.mono ?_); rintro e w1 ⟨rfl, t1⟩; have T1 := Lib.hid t1; clear t1)
    go_loopg [5, 6] (n - (k + 1)) (fun z s5 s6 wr => ∃ (i j : Nat) (R : List Pk), z = n - j ∧ s5 = .int .i64 (i : Int) ∧ s6 = .int .i64 (j : Int) ∧ i < j ∧ j ≤ n ∧ Hid (Kept P ws R i j ∧ PRow (.slice (some ⟨g, o, none⟩) n c) R wr ∧ Turn (fun k => k = g) w wr))
    case atStart => exact ⟨k, k + 1, ws, rfl, rfl, by go_num, by omega, by omega, Lib.hid ⟨HK.out, HR.out.past T1.out, TU T1.out⟩⟩
    case round =>
      obtain ⟨i, j, R, hz, rfl, rfl, hij, hj, HX⟩ := hrel
      by_cases hjn : j < n
      · obtain ⟨t, ht⟩ : ∃ t, ws[j]? = some t := ⟨_, List.getElem?_eq_getElem (by rw [HN.out]; exact hjn)⟩
        have hRt : R[j]? = some t := by rw [HX.out.1.at (by rw [HN.out]; exact hjn), ht]
        obtain ⟨d0, d1, d2⟩ := HX.out.2.1.three hRt
        have hji : (j : Int) < n := by omega
        have hii : (i : Int) < n := by omega
        obtain ⟨u, hu⟩ : ∃ u, R[i]? = some u := ⟨_, List.getElem?_eq_getElem (by rw [HX.out.1.len, HN.out]; omega)⟩
        have hTB := WRow.typed HX.out.2.1 (k := g) (by simp [Blk, Value.ownBlock])
        have hg2 : g < wr.heap.size := hTB.lt
        have tb : Turn NoBlock wr (wr.alloc (.cells #[.int .i64 t.k, .int .i64 t.s, .int .i64 t.v] 37)) := (Turn.refl _ _).alloc _
        have cC := HP.out (wr.alloc (.cells #[.int .i64 t.k, .int .i64 t.s, .int .i64 t.v] 37)) t (List.mem_of_getElem? ht) ((HX.out.2.2.mono (fun k hk => .inl (by subst hk; simp [Blk, Value.ownBlock]))).alloc _)
        unfold Pk.agg at cC
        have HB := Lib.hid (fun W (tW : Turn NoBlock (wr.alloc (.cells #[.int .i64 t.k, .int .i64 t.s, .int .i64 t.v] 37)) W) => And.intro (tW.cell (World.cell?_alloc_new wr _ _ 0) (fun h => h)) (And.intro (tW.cell (World.cell?_alloc_new wr _ _ 1) (fun h => h)) (And.intro (tW.cell (World.cell?_alloc_new wr _ _ 2) (fun h => h)) (And.intro (HX.out.2.1.past (TT tb tW)) (hTB.kept (TT tb tW) (fun h => h))))))
        cases hpt : P t with
        | true =>
          rw [hpt] at cC
          have HPT := Lib.hid hpt
          clear hpt hRt hu hTB
          go_wp2_with ((with_reducible refine cC.mono ?_); rintro e w2 ⟨rfl, t2⟩; have T2 := Lib.hid t2; clear t2)
          go_roundg (n - (j + 1))
          case measure => omega
          case rel => exact ⟨i, j + 1, R, rfl, rfl, by go_num, by omega, by omega, Lib.hid ⟨HX.out.1.skip ht HPT.out, HX.out.2.1.past (TT tb T2.out), HX.out.2.2.trans (TT tb T2.out) (fun _ h => h.elim)⟩⟩
        | false =>
          rw [hpt] at cC
          have HPT := Lib.hid hpt
          have HU := Lib.hid hu
          clear hpt hRt hu hTB
          go_wp2_with ((with_reducible refine cC.mono ?_); rintro e w2 ⟨rfl, t2⟩; have T2 := Lib.hid t2; obtain ⟨b0, b1, b2, r2, y2⟩ := HB.out _ t2; obtain ⟨e0, e1, e2⟩ := r2.three HU.out; have f0 := y2.free (o + i * 3); have f1 := y2.free (o + i * 3 + 1); have f2 := y2.free (o + i * 3 + 2); have Y2 := Lib.hid (And.intro r2 y2); clear t2 r2 y2)
          have T2' := Lib.hid (HX.out.2.2.trans (TT tb T2.out) (fun _ h => h.elim))
          have hs := Lib.hid (PRow.set Y2.out.1 (show i < R.length by rw [HX.out.1.len, HN.out]; omega) t)
          go_roundg (n - (j + 1))
          case measure => omega
          case rel => exact ⟨i + 1, j + 1, R.set i t, rfl, by go_num, by go_num, by omega, by omega, Lib.hid ⟨HX.out.1.keep ht HPT.out, hs.out, ((T2'.out.setCell (.inl rfl) _).setCell (.inl rfl) _).setCell (.inl rfl) _⟩⟩
      · obtain rfl : j = n := by omega
        have hi : i < R.length := by rw [HX.out.1.len, HN.out]; omega
        have hrow := HX.out.2.1
        unfold PRow at hrow
        rw [HX.out.1.len, HN.out] at hrow hi
        obtain ⟨g', o', c', he, hnc', -, hTB, -, hso⟩ := hrow.shape (by omega)
        simp only [Value.slice.injEq, Option.some.injEq, Addr.mk.injEq, and_true, true_and] at he
        obtain ⟨⟨rfl, rfl⟩, rfl⟩ := he
        obtain ⟨D, hs1, hD, -⟩ := sl_lo 44 3 elem_packets size_packets g o j c i (by omega) hnc
        have hs2 := sl_hi 44 3 elem_packets size_packets g o j c i (by omega)
        obtain rfl := hD (by omega)
        obtain ⟨zs, hzl, hcw⟩ := clear_packet wr 0 g (o + i * 3) (j - i) (c - i) (by omega) (fun q hq => by rw [Nat.add_assoc]; exact hso _ (by have := Nat.mul_le_mul_right 3 hnc; omega)) hTB.free
        have ht9 := hrow.tail (i := i) (by omega) zs hzl
        have HZ := Lib.hid (And.intro ht9 (wturn_sets (F := fun k => k = g) rfl zs (o + i * 3) _ _ HX.out.2.2))
        have hii : (i : Int) < j := by omega
        clear hrow hTB hso hzl ht9
        go_wp2
        go_ret
        have hK := HX.out.1
        have hfin := Kept.fin (HN.out ▸ hK)
        have hl : (ws.filter (fun t => !P t)).length = i := by rw [← hfin, List.length_take, hK.len, HN.out]; omega
        refine ⟨_, rfl, ?_, HZ.out.2.mono (fun q hq => .inl (by subst hq; simp [Blk, Value.ownBlock])), fun q hq => by simpa [Blk, Value.ownBlock] using hq⟩
        have h1 := HZ.out.1
        unfold pcells at h1
        rw [fl_take Pk.cells 3 (fun _ => rfl), hfin] at h1
        unfold PRow pcells
        rw [hl]
        exact h1
  · have hkn : k = ws.length := by have := hk.le; omega
    subst hkn
    have hhit : hitAt ws.length ws.length = (-1 : Int) := by unfold hitAt; rw [if_neg (by omega)]
    rw [hhit] at cI
    rw [kept_none P ws hk]
    have HR := Lib.hid hr
    obtain ⟨p, c, rfl⟩ := WRow.sl hr
    clear hr hP hk hhit hlt
    generalize ws.length = n at *
    go_enter Try.func38, Try.ntmps38
    go_wp2_with (go_at_call 42; (with_reducible refine cI.out.mono ?_); rintro e w1 ⟨rfl, t1⟩; have T1 := Lib.hid t1; clear t1)
    go_ret
    exact ⟨_, rfl, HR.out.past T1.out, TU T1.out, fun _ h => h⟩
end Go.Proofs.Ytcnellkoejhofaa
