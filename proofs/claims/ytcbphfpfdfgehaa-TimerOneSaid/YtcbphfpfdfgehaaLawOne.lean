/-
  TimerOne's walk. No conditions but that the deadlines can be read.
-/
import Derived.Test.YtcbphfpfdfgehaaTView
import Derived.Deep.LoopGhost
namespace Go.Proofs.Ytcbphfpfdfgehaa
open Go.ChangeShapes Go.WideShapes Go.ChangeAt Go.RowKit

def oneL (key : Int) (has : Bool) (d : Int) : List En := if has = true then [⟨key, d⟩] else []
section
variable {w0 w : World} {c : Nat} {key d n : Int} {X : Nat → Prop}
theorem one_has (key : Int) (has : Bool) (d : Int) : hasK (oneL key has d) key = has := by cases has <;> simp [oneL, hasK]
theorem one_drop (key : Int) (has : Bool) (d : Int) : dropK (oneL key has d) key = [] := by cases has <;> simp [oneL, dropK]
theorem one_dl (key : Int) (has : Bool) (d : Int) (h : has = false → d = 0) : dlK (oneL key has d) key = d := by
  cases has with
  | false => rw [h rfl]; simp [oneL, dlK]
  | true => simp [oneL, dlK]
theorem one_set1 (has : Bool) (h : TSt w0 w c 3 0 (oneL key has n) NoBlock) (hk : fit key) (hd : fit d) (h1 : d ≤ 0) :
    Calls Try.prog 23 #[.pointer (some ⟨c, 0, none⟩), .int .i64 key, .int .i64 d] w fun x w' => x = .returned (.tuple #[.bool true, .int .i64 0]) ∧ TSt w0 w' c 3 0 (oneL key false 0) NoBlock := by
  refine (h.set key d hk hd).mono ?_
  rintro x w' ⟨rfl, ht, -⟩
  unfold setB setS setL at *
  rw [if_pos h1] at ht ⊢
  rw [decide_eq_true h1]
  exact ⟨rfl, ht.same (by rw [one_drop]; rfl)⟩
theorem one_set2 (has : Bool) (h : TSt w0 w c 3 0 (oneL key has n) NoBlock) (hk : fit key) (hd : fit d) (h1 : 1099511627776 < d) :
    Calls Try.prog 23 #[.pointer (some ⟨c, 0, none⟩), .int .i64 key, .int .i64 d] w fun x w' => x = .returned (.tuple #[.bool false, .int .i64 (-10)]) ∧ TSt w0 w' c 3 0 (oneL key has n) NoBlock := by
  refine (h.set key d hk hd).mono ?_
  rintro x w' ⟨rfl, ht, -⟩
  unfold setB setS setL at *
  have h0 : ¬ d ≤ 0 := by omega
  rw [if_neg h0, if_pos h1] at ht ⊢
  rw [decide_eq_false h0]
  exact ⟨rfl, ht⟩
theorem one_set3 (has : Bool) (h : TSt w0 w c 3 0 (oneL key has n) NoBlock) (hk : fit key) (hd : fit d) (h0 : ¬ d ≤ 0) (h1 : ¬ 1099511627776 < d) :
    Calls Try.prog 23 #[.pointer (some ⟨c, 0, none⟩), .int .i64 key, .int .i64 d] w fun x w' => x = .returned (.tuple #[.bool false, .int .i64 0]) ∧ TSt w0 w' c 3 0 (oneL key true d) NoBlock := by
  refine (h.set key d hk hd).mono ?_
  rintro x w' ⟨rfl, ht, -⟩
  unfold setB setS setL at *
  have h2 : ¬ (hasK (oneL key has n) key = false ∧ (3 : Int) ≤ ((oneL key has n).length : Int)) := by
    rintro ⟨e1, e2⟩
    rw [one_has] at e1
    subst e1
    simp [oneL] at e2
  rw [if_neg h0, if_neg h1, if_neg h2] at ht ⊢
  rw [decide_eq_false h0]
  exact ⟨rfl, ht.same (by rw [one_drop]; rfl)⟩
theorem one_deadline (has : Bool) (h : TSt w0 w c 3 0 (oneL key has n) NoBlock) (hk : fit key) (hn : has = false → n = 0) :
    Calls Try.prog 31 #[.pointer (some ⟨c, 0, none⟩), .int .i64 key] w fun x w' => x = .returned (.tuple #[.int .i64 n, .bool has]) ∧ w = w' := by
  have := h.deadline key hk
  rw [one_dl key has n hn, one_has] at this
  exact this
theorem one_count (has : Bool) (h : TSt w0 w c 3 0 (oneL key has n) NoBlock) : ∃ m : Nat, m ≤ 1 ∧ (has = false → m = 0) ∧
    Calls Try.prog 34 #[.pointer (some ⟨c, 0, none⟩)] w fun x w' => x = .returned (.int .i64 (m : Int)) ∧ w = w' :=
  ⟨_, by cases has <;> simp [oneL], by rintro rfl; rfl, h.count⟩
theorem one_cnt0 (h : TSt w0 w c 3 0 (oneL key false n) NoBlock) : Calls Try.prog 34 #[.pointer (some ⟨c, 0, none⟩)] w fun x w' => x = .returned (.int .i64 0) ∧ w = w' := h.count
theorem one_cnt1 (h : TSt w0 w c 3 0 (oneL key true n) NoBlock) : Calls Try.prog 34 #[.pointer (some ⟨c, 0, none⟩)] w fun x w' => x = .returned (.int .i64 1) ∧ w = w' := h.count
theorem one_cancel (has : Bool) (h : TSt w0 w c 3 0 (oneL key has n) NoBlock) (hk : fit key) :
    Calls Try.prog 25 #[.pointer (some ⟨c, 0, none⟩), .int .i64 key] w fun x w' => x = .returned (.int .i64 (if has = true then 0 else -25)) ∧ TSt w0 w' c 3 0 (oneL key false 0) NoBlock := by
  refine (h.cancel key hk).mono ?_
  rintro x w' ⟨rfl, ht, -⟩
  unfold canS
  rw [one_has]
  exact ⟨rfl, ht.same (by rw [one_drop]; rfl)⟩
end
set_option maxRecDepth 20000 in
set_option maxHeartbeats 4000000 in
theorem one_walk (key : Int) (hk : fit key) (p : Option Addr) (len cap : Nat) (zs : List Int) (w : World) (hz : ZsAt w p len zs) :
    Calls Try.prog 6 #[.int .i64 key, .slice p len cap] w fun e w' => e = .returned (.bool true) ∧ Turn NoBlock w w' := by
  have cA := Lib.hid awake14
  have cN := Lib.hid (new_yes 3 w (by omega) (by omega))
  have HZ := Lib.hid hz
  have HK := Lib.hid hk
  clear hz hk
  by_cases hlen : 60 < len
  · have hd : decide ((len : Int) > 60) = true := by simp; omega
    go_enter Try.func6, Try.ntmps6
    go_wp2_with (first
      | (go_at_call 21; (with_reducible refine cN.out.mono ?_); rintro x w1 ⟨c, rfl, k1, -, -⟩; have K1 := Lib.hid k1; clear k1)
      | (go_at_call 22; (with_reducible refine (cA.out _).mono ?_); rintro x w9 ⟨rfl, t9⟩))
    go_ret
    exact ⟨rfl, TT K1.out.turn t9⟩
  · have hl : len ≤ 60 := by omega
    have hd : decide ((len : Int) > 60) = false := by simp; omega
    clear hlen
    go_enter Try.func6, Try.ntmps6
    go_wp2_with (first
      | (go_at_call 21; (with_reducible refine cN.out.mono ?_); rintro x w1 ⟨c, rfl, k1, -, -⟩; have K1 := Lib.hid k1; clear k1))
    go_loopg [6, 7, 29] len (fun z s6 s7 s29 wr => ∃ (i : Nat) (n : Int) (has : Bool), z = len - i ∧ i ≤ len ∧ s6 = .int .i64 n ∧ s7 = .bool has ∧ s29 = .int .i64 (i : Int) ∧ Hid ((has = false → n = 0) ∧ TSt w wr c 3 0 (oneL key has n) NoBlock))
    case atStart => exact ⟨0, 0, false, rfl, Nat.zero_le _, rfl, rfl, rfl, Lib.hid ⟨fun _ => rfl, K1.out⟩⟩
    case round =>
      obtain ⟨i, n, has, hz, hi, rfl, rfl, rfl, HR⟩ := hrel
      by_cases hlt : i < len
      · obtain ⟨d, hd2⟩ : ∃ d, zs[i]? = some d := ⟨_, List.getElem?_eq_getElem (by rw [HZ.out.1]; exact hlt)⟩
        obtain ⟨g, o, rfl, hcell⟩ := HZ.out.2.2 (by omega)
        have q := HR.out.2.turn.cell (hcell i d hd2) (fun h => h)
        have HD := Lib.hid (HZ.out.2.1 d (List.mem_of_getElem? hd2))
        have hil : (i : Int) < (len : Int) := by omega
        clear hd2 hcell
        by_cases h1 : d ≤ 0
        · have H1 := Lib.hid h1
          go_wp2_with (first
            | (go_at_call 23; (with_reducible refine (one_set1 has HR.out.2 HK.out HD.out H1.out).mono ?_); rintro x w2 ⟨rfl, k2⟩; have K2 := Lib.hid k2; clear k2)
            | (go_at_call 31; (with_reducible refine (one_deadline false K2.out HK.out (fun _ => rfl)).mono ?_); rintro x w3 ⟨rfl, rfl⟩)
            | (go_at_call 34; (with_reducible refine (one_cnt0 K2.out).mono ?_); rintro x w4 ⟨rfl, rfl⟩))
          go_roundg (len - (i + 1))
          case measure => omega
          case rel => exact ⟨i + 1, 0, false, rfl, by omega, rfl, rfl, by go_num, Lib.hid ⟨(fun _ => rfl), K2.out⟩⟩
        · by_cases h2 : 1099511627776 < d
          · have H2 := Lib.hid h2
            cases has with
            | false =>
              obtain rfl : n = 0 := HR.out.1 rfl
              go_wp2_with (first
                | (go_at_call 23; (with_reducible refine (one_set2 false HR.out.2 HK.out HD.out H2.out).mono ?_); rintro x w2 ⟨rfl, k2⟩; have K2 := Lib.hid k2; clear k2)
                | (go_at_call 31; (with_reducible refine (one_deadline false K2.out HK.out (fun _ => rfl)).mono ?_); rintro x w3 ⟨rfl, rfl⟩)
                | (go_at_call 34; (with_reducible refine (one_cnt0 K2.out).mono ?_); rintro x w4 ⟨rfl, rfl⟩))
              go_roundg (len - (i + 1))
              case measure => omega
              case rel => exact ⟨i + 1, 0, false, rfl, by omega, rfl, rfl, by go_num, Lib.hid ⟨(fun _ => rfl), K2.out⟩⟩
            | true =>
              go_wp2_with (first
                | (go_at_call 23; (with_reducible refine (one_set2 true HR.out.2 HK.out HD.out H2.out).mono ?_); rintro x w2 ⟨rfl, k2⟩; have K2 := Lib.hid k2; clear k2)
                | (go_at_call 31; (with_reducible refine (one_deadline true K2.out HK.out (fun e => by cases e)).mono ?_); rintro x w3 ⟨rfl, rfl⟩)
                | (go_at_call 34; (with_reducible refine (one_cnt1 K2.out).mono ?_); rintro x w4 ⟨rfl, rfl⟩))
              go_roundg (len - (i + 1))
              case measure => omega
              case rel => exact ⟨i + 1, n, true, rfl, by omega, rfl, rfl, by go_num, Lib.hid ⟨(fun e => by cases e), K2.out⟩⟩
          · have H3 := Lib.hid (And.intro h1 h2)
            go_wp2_with (first
              | (go_at_call 23; (with_reducible refine (one_set3 has HR.out.2 HK.out HD.out H3.out.1 H3.out.2).mono ?_); rintro x w2 ⟨rfl, k2⟩; have K2 := Lib.hid k2; clear k2)
              | (go_at_call 31; (with_reducible refine (one_deadline true K2.out HK.out (fun e => by cases e)).mono ?_); rintro x w3 ⟨rfl, rfl⟩)
              | (go_at_call 34; (with_reducible refine (one_cnt1 K2.out).mono ?_); rintro x w4 ⟨rfl, rfl⟩))
            go_roundg (len - (i + 1))
            case measure => omega
            case rel => exact ⟨i + 1, d, true, rfl, by omega, rfl, rfl, by go_num, Lib.hid ⟨(fun e => by cases e), K2.out⟩⟩
      · obtain rfl : i = len := by omega
        obtain ⟨m, hm, hm0, hcnt⟩ := one_count has HR.out.2
        have CC := Lib.hid (one_cancel has HR.out.2 HK.out)
        cases has with
        | false =>
          simp only [Bool.false_eq_true, if_false] at CC
          go_wp2_with (first
            | (go_at_call 25; (with_reducible refine CC.out.mono ?_); rintro x w2 ⟨rfl, k2⟩; have K2 := Lib.hid k2; clear k2)
            | (go_at_call 25; (with_reducible refine (one_cancel false K2.out HK.out).mono ?_); rintro x w3 ⟨rfl, k3⟩; have K3 := Lib.hid k3; clear k3)
            | (go_at_call 34; (with_reducible refine (K3.out.count).mono ?_); rintro x w4 ⟨rfl, rfl⟩)
            | (go_at_call 22; (with_reducible refine (cA.out _).mono ?_); rintro x w9 ⟨rfl, t9⟩))
          go_ret
          exact ⟨rfl, TT K3.out.turn t9⟩
        | true =>
          simp only [if_true] at CC
          go_wp2_with (first
            | (go_at_call 25; (with_reducible refine CC.out.mono ?_); rintro x w2 ⟨rfl, k2⟩; have K2 := Lib.hid k2; clear k2)
            | (go_at_call 25; (with_reducible refine (one_cancel false K2.out HK.out).mono ?_); rintro x w3 ⟨rfl, k3⟩; have K3 := Lib.hid k3; clear k3)
            | (go_at_call 34; (with_reducible refine (K3.out.count).mono ?_); rintro x w4 ⟨rfl, rfl⟩)
            | (go_at_call 22; (with_reducible refine (cA.out _).mono ?_); rintro x w9 ⟨rfl, t9⟩))
          go_ret
          exact ⟨rfl, TT K3.out.turn t9⟩
end Go.Proofs.Ytcbphfpfdfgehaa
