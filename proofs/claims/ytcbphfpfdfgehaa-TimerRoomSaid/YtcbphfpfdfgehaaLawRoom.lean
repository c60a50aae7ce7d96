/-
  TimerRoom's walk. No conditions but that the keys can be read.
-/
import Derived.Test.YtcbphfpfdfgehaaTView
import Derived.Test.YtcbphfpfdfgehaaTBool
import Derived.Deep.LoopGhost
namespace Go.Proofs.Ytcbphfpfdfgehaa
open Go.ChangeShapes Go.WideShapes Go.ChangeAt Go.RowKit

theorem hasK_ins (L : List En) (e : En) (j : Int) : hasK (insE e (dropK L e.k)) j = if j = e.k then true else hasK L j := by
  rw [Bool.eq_iff_iff]
  by_cases hj : j = e.k
  · rw [if_pos hj]
    simp only [iff_true]
    exact hasK_iff.2 ⟨e, (insE_perm _ _).mem_iff.2 List.mem_cons_self, hj.symm⟩
  · rw [if_neg hj, hasK_iff, hasK_iff]
    constructor
    · rintro ⟨a, ha, hk⟩
      rcases List.mem_cons.1 ((insE_perm _ _).mem_iff.1 ha) with rfl | ha
      · exact absurd hk.symm hj
      · exact ⟨a, (List.mem_filter.1 ha).1, hk⟩
    · rintro ⟨a, ha, hk⟩
      refine ⟨a, (insE_perm _ _).mem_iff.2 (List.mem_cons_of_mem _ (List.mem_filter.2 ⟨ha, ?_⟩)), hk⟩
      have : a.k ≠ e.k := fun h => hj (by rw [← hk, h])
      simpa using this
theorem hasK_dropj (L : List En) (k j : Int) : hasK (dropK L k) j = if j = k then false else hasK L j := by
  by_cases hj : j = k
  · rw [if_pos hj, hj]; exact hasK_drop L k
  · rw [if_neg hj, Bool.eq_iff_iff, hasK_iff, hasK_iff]
    constructor
    · rintro ⟨a, ha, hk⟩
      exact ⟨a, (List.mem_filter.1 ha).1, hk⟩
    · rintro ⟨a, ha, hk⟩
      refine ⟨a, List.mem_filter.2 ⟨ha, ?_⟩, hk⟩
      have : a.k ≠ k := fun h => hj (by rw [← hk, h])
      simpa using this
theorem len_drop {L : List En} (h : Right L) (k : Int) : (dropK L k).length = if hasK L k = true then L.length - 1 else L.length := by
  cases hh : hasK L k with
  | false => rw [dropK_no hh]; rfl
  | true =>
    rw [if_pos rfl]
    obtain ⟨e, he, hk⟩ := hasK_iff.1 hh
    obtain ⟨i, hi, hie⟩ := mem_eAt he
    have := (erase_dropK (List.Perm.refl L) h.keys hi).length_eq
    rw [hie, hk] at this
    rw [← this, List.length_eraseIdx, if_pos hi]
section
variable {w0 w : World} {c mb : Nat} {most : Int} {L : List En} {k d : Int}
theorem room_yes (h : RS w0 w c most L mb (hasK L) L.length) (hk : fit k) (hd : 0 < d ∧ d ≤ 1099511627776) (hr : hasK L k = true ∨ (L.length : Int) < most) :
    Calls Try.prog 23 #[.pointer (some ⟨c, 0, none⟩), .int .i64 k, .int .i64 d] w fun x w' => x = .returned (.tuple #[.bool false, .int .i64 0]) ∧ RS w0 w' c most (insE ⟨k, d⟩ (dropK L k)) mb (hasK L) L.length := by
  refine (h.set k d hk (by unfold fit; omega)).mono ?_
  rintro x w' ⟨rfl, ht⟩
  unfold setB setS setL at *
  have h0 : ¬ d ≤ 0 := by omega
  have h1 : ¬ 1099511627776 < d := by omega
  have h2 : ¬ (hasK L k = false ∧ most ≤ (L.length : Int)) := by
    rintro ⟨e1, e2⟩
    rcases hr with e3 | e3
    · rw [e1] at e3; cases e3
    · omega
  rw [if_neg h0, if_neg h1, if_neg h2] at ht ⊢
  rw [decide_eq_false h0]
  exact ⟨rfl, ht⟩
theorem room_no (h : RS w0 w c most L mb (hasK L) L.length) (hk : fit k) (hd : 0 < d ∧ d ≤ 1099511627776) (h3 : hasK L k = false) (h4 : most ≤ (L.length : Int)) :
    Calls Try.prog 23 #[.pointer (some ⟨c, 0, none⟩), .int .i64 k, .int .i64 d] w fun x w' => x = .returned (.tuple #[.bool false, .int .i64 (-4)]) ∧ RS w0 w' c most L mb (hasK L) L.length := by
  refine (h.set k d hk (by unfold fit; omega)).mono ?_
  rintro x w' ⟨rfl, ht⟩
  unfold setB setS setL at *
  have h0 : ¬ d ≤ 0 := by omega
  have h1 : ¬ 1099511627776 < d := by omega
  rw [if_neg h0, if_neg h1, if_pos ⟨h3, h4⟩] at ht ⊢
  rw [decide_eq_false h0]
  exact ⟨rfl, ht⟩
theorem room_put (h : RS w0 w c most (insE ⟨k, d⟩ (dropK L k)) mb (hasK L) L.length) (hR : Right L) (hl : L.length ≤ 65536) (hk : fit k) :
    ∃ w', Sem.run Try.prog (Instr.mapUpdate 82 (.map (some mb)) (.int .i64 k) (.bool true)) w = .ok () w' ∧ RS w0 w' c most (insE ⟨k, d⟩ (dropK L k)) mb (hasK (insE ⟨k, d⟩ (dropK L k))) (insE ⟨k, d⟩ (dropK L k)).length := by
  obtain ⟨w', h1, h2⟩ := h.put (by unfold maxLen; omega) k hk
  refine ⟨w', h1, h2.same rfl ?_ ?_⟩
  · funext j
    exact (hasK_ins L ⟨k, d⟩ j).symm
  · rw [(insE_perm _ _).length_eq, List.length_cons, len_drop hR]
    cases hh : hasK L k with
    | false => rfl
    | true =>
      obtain ⟨e, he, -⟩ := hasK_iff.1 hh
      have := List.length_pos_of_mem he
      simp only [if_true]
      omega
theorem room_due (h : RS w0 w c most L mb (hasK L) L.length) (hk : fit k) :
    Calls Try.prog 23 #[.pointer (some ⟨c, 0, none⟩), .int .i64 k, .int .i64 0] w fun x w' => x = .returned (.tuple #[.bool true, .int .i64 0]) ∧ RS w0 w' c most (dropK L k) mb (hasK L) L.length := by
  refine (h.set k 0 hk (by unfold fit; omega)).mono ?_
  rintro x w' ⟨rfl, ht⟩
  exact ⟨rfl, ht⟩
theorem room_del (h : RS w0 w c most (dropK L k) mb (hasK L) L.length) (hR : Right L) (hk : fit k) :
    ∃ w', (∀ ty, Sem.run Try.prog (Builtin.delete_ #[82, 3] ty #[.map (some mb), .int .i64 k]) w = .ok (.tuple #[]) w') ∧ RS w0 w' c most (dropK L k) mb (hasK (dropK L k)) (dropK L k).length := by
  obtain ⟨w', h1, h2⟩ := h.drop k hk
  refine ⟨w', h1, h2.same rfl ?_ (len_drop hR k).symm⟩
  funext j
  exact (hasK_dropj L k j).symm
theorem RS.len (h : RS w0 w c most L mb (hasK L) L.length) : L.length ≤ 65536 := by
  have := h.st.room
  omega
theorem room_new {w w1 : World} {c : Nat} {most : Int} (h : TSt w w1 c most 0 [] NoBlock) : RS w (w1.alloc (.map #[] 0)) c most [] w1.heap.size (hasK []) ([] : List En).length :=
  ⟨h.more ((Turn.refl _ w1).alloc _) (fun k hk => .inr ⟨by omega, by rw [World.size_alloc]; omega⟩) (fun k hk => hk.elim), bmap_made w1, h.turn.size⟩
end
set_option maxRecDepth 20000 in
set_option maxHeartbeats 4000000 in
theorem room_walk (most : Int) (p : Option Addr) (len cap : Nat) (zs : List Int) (w : World) (hz : ZsAt w p len zs) :
    Calls Try.prog 8 #[.int .i64 most, .slice p len cap] w fun e w' => e = .returned (.bool true) ∧ Turn NoBlock w w' := by
  have cA := Lib.hid awake14
  have HZ := Lib.hid hz
  clear hz
  by_cases hb : most < 0 ∨ 65536 < most
  · have cN := Lib.hid (new_no most w hb)
    rcases hb with hb | hb
    · go_enter Try.func8, Try.ntmps8
      go_wp2_with (first
        | (go_at_call 21; (with_reducible refine cN.out.mono ?_); rintro x w1 ⟨rfl, rfl⟩)
        | (go_at_call 22; (with_reducible refine (cA.out _).mono ?_); rintro x w9 ⟨rfl, t9⟩))
      go_ret
      exact ⟨rfl, t9⟩
    · have hb0 : decide (most < 0) = false := by simp; omega
      go_enter Try.func8, Try.ntmps8
      go_wp2_with (first
        | (go_at_call 21; (with_reducible refine cN.out.mono ?_); rintro x w1 ⟨rfl, rfl⟩)
        | (go_at_call 22; (with_reducible refine (cA.out _).mono ?_); rintro x w9 ⟨rfl, t9⟩))
      go_ret
      exact ⟨rfl, t9⟩
  · have h0 : 0 ≤ most := by omega
    have h1 : most ≤ 65536 := by omega
    have cN := Lib.hid (new_yes most w h0 h1)
    clear hb
    by_cases hlen : 60 < len
    · have hd : decide ((len : Int) > 60) = true := by simp; omega
      go_enter Try.func8, Try.ntmps8
      go_wp2_with (first
        | (go_at_call 21; (with_reducible refine cN.out.mono ?_); rintro x w1 ⟨c, rfl, k1, -, -⟩; have K1 := Lib.hid k1; clear k1)
        | (go_at_call 22; (with_reducible refine (cA.out _).mono ?_); rintro x w9 ⟨rfl, t9⟩))
      go_ret
      exact ⟨rfl, TT K1.out.turn t9⟩
    · have hl : len ≤ 60 := by omega
      have hd : decide ((len : Int) > 60) = false := by simp; omega
      clear hlen
      have hmm := @run_makeMap Try.prog
      go_enter Try.func8, Try.ntmps8
      go_wp2_with (first
        | (go_at_call 21; (with_reducible refine cN.out.mono ?_); rintro x w1 ⟨c, rfl, k1, -, -⟩; have K1 := Lib.hid (room_new k1); clear k1))
      clear hmm
      obtain ⟨mb, hmb⟩ : ∃ mb, w1.heap.size = mb := ⟨_, rfl⟩
      rw [hmb] at K1
      rw [hmb]
      generalize w1.alloc (.map #[] 0) = W1 at *
      clear hmb
      go_loopg [36] len (fun z s36 wr => ∃ (i : Nat) (L : List En), z = len - i ∧ i ≤ len ∧ s36 = .int .i64 (i : Int) ∧ Hid (RS w wr c most L mb (hasK L) L.length))
      case atStart => exact ⟨0, [], rfl, Nat.zero_le _, rfl, K1⟩
      case round =>
        obtain ⟨i, L, hz, hi, rfl, HR⟩ := hrel
        by_cases hlt : i < len
        · obtain ⟨k, hk2⟩ : ∃ k, zs[i]? = some k := ⟨_, List.getElem?_eq_getElem (by rw [HZ.out.1]; exact hlt)⟩
          obtain ⟨g, o, rfl, hcell⟩ := HZ.out.2.2 (by omega)
          have q := HR.out.st.turn.cell (hcell i k hk2) (fun h => h)
          have HK := Lib.hid (HZ.out.2.1 k (List.mem_of_getElem? hk2))
          have HD := Lib.hid (show 0 < (i : Int) + 1 ∧ (i : Int) + 1 ≤ 1099511627776 by omega)
          have HI := Lib.hid (show fit (1099511627776 + (i : Int)) by unfold fit; omega)
          have hil : (i : Int) < (len : Int) := by omega
          clear hk2 hcell
          cases hh : hasK L k with
          | true =>
            have HH := Lib.hid hh
            clear hh
            go_wp2_with (first
              | (go_at_call 23; (with_reducible refine (room_yes HR.out HK.out HD.out (.inl HH.out)).mono ?_); rintro x w2 ⟨rfl, k2⟩; obtain ⟨w3, p3, m3⟩ := room_put k2 HR.out.st.right HR.out.len HK.out; have q2 := k2.mp.look k HK.out; rw [HH.out] at q2; have l2 := fun ty => k2.mp.len ty; have M3 := Lib.hid m3; have R3 := Lib.hid m3.st.right; clear k2 m3)
              | (go_at_call 23; (with_reducible refine (room_due M3.out HI.out).mono ?_); rintro x w4 ⟨rfl, k4⟩; obtain ⟨w5, p5, m5⟩ := room_del k4 R3.out HI.out; have l5 := fun ty => m5.mp.len ty; have M5 := Lib.hid m5; clear k4 m5)
              | (go_at_call 34; (with_reducible refine M5.out.st.count.mono ?_); rintro x w6 ⟨rfl, rfl⟩))
            go_roundg (len - (i + 1))
            case measure => omega
            case rel => exact ⟨i + 1, _, rfl, by omega, by go_num, M5⟩
          | false =>
            by_cases hr : (L.length : Int) < most
            · have HH := Lib.hid (And.intro hh hr)
              have hrd : decide ((L.length : Int) < most) = true := by simpa using hr
              clear hh hr
              go_wp2_with (first
                | (go_at_call 23; (with_reducible refine (room_yes HR.out HK.out HD.out (.inr HH.out.2)).mono ?_); rintro x w2 ⟨rfl, k2⟩; obtain ⟨w3, p3, m3⟩ := room_put k2 HR.out.st.right HR.out.len HK.out; have q2 := k2.mp.look k HK.out; rw [HH.out.1] at q2; have l2 := fun ty => k2.mp.len ty; have M3 := Lib.hid m3; have R3 := Lib.hid m3.st.right; clear k2 m3)
                | (go_at_call 23; (with_reducible refine (room_due M3.out HI.out).mono ?_); rintro x w4 ⟨rfl, k4⟩; obtain ⟨w5, p5, m5⟩ := room_del k4 R3.out HI.out; have l5 := fun ty => m5.mp.len ty; have M5 := Lib.hid m5; clear k4 m5)
                | (go_at_call 34; (with_reducible refine M5.out.st.count.mono ?_); rintro x w6 ⟨rfl, rfl⟩))
              go_roundg (len - (i + 1))
              case measure => omega
              case rel => exact ⟨i + 1, _, rfl, by omega, by go_num, M5⟩
            · have HH := Lib.hid (And.intro hh (show most ≤ (L.length : Int) by omega))
              have hrd : decide ((L.length : Int) < most) = false := by simpa using hr
              clear hh hr
              go_wp2_with (first
                | (go_at_call 23; (with_reducible refine (room_no HR.out HK.out HD.out HH.out.1 HH.out.2).mono ?_); rintro x w2 ⟨rfl, k2⟩; have q2 := k2.mp.look k HK.out; rw [HH.out.1] at q2; have l2 := fun ty => k2.mp.len ty; have M3 := Lib.hid k2; have R3 := Lib.hid k2.st.right; clear k2)
                | (go_at_call 23; (with_reducible refine (room_due M3.out HI.out).mono ?_); rintro x w4 ⟨rfl, k4⟩; obtain ⟨w5, p5, m5⟩ := room_del k4 R3.out HI.out; have l5 := fun ty => m5.mp.len ty; have M5 := Lib.hid m5; clear k4 m5)
                | (go_at_call 34; (with_reducible refine M5.out.st.count.mono ?_); rintro x w6 ⟨rfl, rfl⟩))
              go_roundg (len - (i + 1))
              case measure => omega
              case rel => exact ⟨i + 1, _, rfl, by omega, by go_num, M5⟩
        · obtain rfl : i = len := by omega
          go_wp2_with (first
            | (go_at_call 22; (with_reducible refine (cA.out _).mono ?_); rintro x w9 ⟨rfl, t9⟩))
          go_ret
          exact ⟨rfl, TT HR.out.st.turn t9⟩
end Go.Proofs.Ytcbphfpfdfgehaa
